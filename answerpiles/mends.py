"""Repairs of rules, and all sets of them behind which wishes are true."""

from answerpiles.edits import altered_deed, is_waking_number
from answerpiles.errors import BadArgument, BadChange, BadRules
from answerpiles.kinds import is_number, is_one_of, is_row
from answerpiles.outcomes import end_tables, words_laid
from answerpiles.rings import Outlook
from answerpiles.rules import Rules, Waking
from answerpiles.walks import both_walks
from answerpiles.ways import has_ring

MOST_REPAIRS = 8
MOST_WISHES = 6


def mended(rules, repairs):
    """Rules behind some repairs, all done at once."""
    if not isinstance(rules, Rules):
        raise BadRules(rules)
    if not are_repairs(rules, repairs):
        raise BadChange(repairs)
    deeds = [mended_deed(deed, repairs) for deed in rules.deeds]
    return rules.changed(deeds=deeds, wakings=mended_wakings(rules, repairs))


class Mend:
    """A menu of repairs, and wishes that are to be true behind some of them."""

    def __init__(self, rules, menu, wishes):
        if not isinstance(rules, Rules):
            raise BadRules(rules)
        if not are_repairs(rules, menu) or len(menu) > MOST_REPAIRS:
            raise BadChange(menu)
        if not are_wishes(rules, wishes):
            raise BadArgument(wishes)
        self._rules = rules
        self._menu = tuple(menu)
        self._wishes = tuple(wishes)

    def behind(self, picks):
        """The rules behind a set of repairs, told by their indexes."""
        if not is_set(picks, len(self._menu)):
            raise BadChange(picks)
        return mended(self._rules, [self._menu[at] for at in picks])

    def unmet(self, picks):
        """The indexes of the wishes that are not true behind a set."""
        walks = both_walks(self.behind(picks), False)
        return [at for at, wish in enumerate(self._wishes) if not is_met(wish, walks)]

    def ring(self, picks):
        """A shortest ring behind a set, or None."""
        return Outlook(self.behind(picks)).ring()

    def good(self):
        """The sets behind which all wishes are true, by size, then ascending."""
        for picks in all_sets(len(self._menu)):
            if not self.unmet(picks):
                yield picks

    def least(self):
        """The good sets of which no smaller part is good, by size, then ascending."""
        found = []
        for picks in all_sets(len(self._menu)):
            if not has_one_within(picks, found) and not self.unmet(picks):
                found.append(picks)
        return found

    def __call__(self, picks):
        return self.behind(picks)

    def __len__(self):
        return len(self._menu)


def card_sets(rules):
    """The least lists of words of deeds that let each pile end if they use a card."""
    if not isinstance(rules, Rules):
        raise BadRules(rules)
    words = [word for word in rules.words() if not rules[word].card]
    mend = Mend(rules, [("card", word) for word in words], [("ends",)])
    return [[words[at] for at in picks] for picks in mend.least()]


def are_repairs(rules, value):
    """Whether any value is a list or tuple of unlike repairs of some rules."""
    if not is_row(value) or not all([is_repair(rules, repair) for repair in value]):
        return False
    return len(set(value)) == len(value)


def is_repair(rules, value):
    """Whether any value is a repair of some rules."""
    if not isinstance(value, tuple) or len(value) not in (2, 3):
        return False
    if len(value) == 3:
        return is_repair_of_deed(rules, value)
    name, which = value
    if is_one_of(name, ("card",)):
        return which in rules and not rules[which].card
    if not is_one_of(name, ("out", "may", "must")) or not is_waking_number(rules, which):
        return False
    return name == "out" or rules.wakings[which].may == (name == "must")


def is_repair_of_deed(rules, value):
    """Whether a tuple of three values is a repair of some rules."""
    name, word, other = value
    if word not in rules:
        return False
    deed = rules[word]
    if is_one_of(name, ("mute",)):
        return is_one_of(other, deed.answers)
    if not is_one_of(name, ("pay",)) or not is_one_of(other, list(rules.marks)):
        return False
    return deed.pays.get(other, 0) < rules.marks[other]


def mended_deed(deed, repairs):
    """A deed behind some repairs of its rules."""
    pays = deed.pays
    for repair in repairs:
        if repair[:2] == ("pay", deed.word):
            pays[repair[2]] = pays.get(repair[2], 0) + 1
    return altered_deed(
        deed,
        answers=[other for other in deed.answers if ("mute", deed.word, other) not in repairs],
        pays=pays,
        card=deed.card or ("card", deed.word) in repairs,
    )


def mended_wakings(rules, repairs):
    """The wakings of rules behind some repairs."""
    found = []
    for number, waking in enumerate(rules.wakings):
        may = ("may", number) in repairs or (waking.may and ("must", number) not in repairs)
        if ("out", number) not in repairs:
            found.append(Waking(waking.event, waking.deed, waking.call, by=waking.by, may=may))
    return found


def are_wishes(rules, value):
    """Whether any value is a list or tuple of few enough wishes."""
    if not is_row(value) or len(value) > MOST_WISHES:
        return False
    return all([is_wish(rules, wish) for wish in value])


def is_wish(rules, value):
    """Whether any value is a wish for some rules."""
    if not isinstance(value, tuple) or len(value) not in (1, 2):
        return False
    if len(value) == 1:
        return is_one_of(value[0], ("ends", "can"))
    name, which = value
    if is_one_of(name, ("with", "never")):
        return rules.is_table(which)
    return is_one_of(name, ("lays",)) and which in rules


def is_met(wish, walks):
    """Whether a wish is true for rules with these walks from the start."""
    full, calm, begins = walks
    name = wish[0]
    if name == "ends":
        return not has_ring(calm)
    if name == "can":
        return all([len(ends) > 0 for ends in full.fewest])
    if name == "lays":
        return wish[1] in words_laid(full, begins)
    return (wish[1] in end_tables(full, begins)) == (name == "with")


def is_set(value, many):
    """Whether any value is a tuple of ascending indexes of so many repairs, without doubles."""
    if not isinstance(value, tuple) or not all([is_number(at, 0, many - 1) for at in value]):
        return False
    return list(value) == sorted(set(value))


def all_sets(many):
    """All sets of indexes of so many repairs, by size, then ascending."""
    found = [()]
    for at in range(many):
        found = found + [picks + (at,) for picks in found]
    return sorted(found, key=lambda picks: (len(picks), picks))


def has_one_within(picks, others):
    """Whether one of some other sets is a part of a set."""
    return any([all([at in picks for at in other]) for other in others])
