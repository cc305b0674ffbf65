"""Hands: how many of each card each seat has.

They are kept as a tuple with a tuple for each seat, of the pairs (word,
number) of the cards of which there are some, ascending. None stands for
full hands.
"""

from answerpiles.kinds import is_number, is_row

MOST_OF_A_CARD = 9


def is_hand(rules, value):
    """Whether any value is the hand of one seat."""
    if not isinstance(value, dict):
        return False
    for word in value:
        if word not in rules or not rules[word].card:
            return False
        if not is_number(value[word], 0, MOST_OF_A_CARD):
            return False
    return True


def are_hands(rules, value):
    """Whether any value is a list or tuple with a hand for each seat."""
    if not is_row(value) or len(value) != rules.seats:
        return False
    return all([is_hand(rules, hand) for hand in value])


def kept_hands(value):
    """Hands that were given, as they are kept."""
    return tuple([kept_hand(hand) for hand in value])


def kept_hand(hand):
    """The hand of one seat, as it is kept."""
    return tuple([(word, hand[word]) for word in sorted(hand) if hand[word] > 0])


def told_hands(hands):
    """Hands that are kept, as they are told: new dicts."""
    if hands is None:
        return None
    return [dict(hand) for hand in hands]


def has_card(hands, seat, word):
    """Whether a seat has a card."""
    return any([card == word for card, number in hands[seat]])


def without_card(hands, seat, word):
    """The hands behind the use of a card by a seat."""
    used = [(card, number - 1 if card == word else number) for card, number in hands[seat]]
    left = tuple([pair for pair in used if pair[1] > 0])
    return hands[:seat] + (left,) + hands[seat + 1:]


def are_kept_hands(rules, value):
    """Whether any value is hands in the form in which they are kept."""
    if not isinstance(value, tuple) or len(value) != rules.seats:
        return False
    return all([is_kept_hand(rules, hand) for hand in value])


def is_kept_hand(rules, value):
    """Whether any value is the hand of one seat in the form in which it is kept."""
    if not isinstance(value, tuple) or not all([is_card_pair(rules, pair) for pair in value]):
        return False
    words = [pair[0] for pair in value]
    return words == sorted(set(words))


def is_card_pair(rules, value):
    """Whether any value is a tuple of a card and how many of it there are, at least one."""
    if not isinstance(value, tuple) or len(value) != 2:
        return False
    word, number = value
    return word in rules and rules[word].card and is_number(number, 1, MOST_OF_A_CARD)
