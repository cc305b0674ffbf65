"""Rules and deeds with some part changed: the same ones stay as they are."""

from answerpiles.errors import BadArgument, NotThere
from answerpiles.kinds import is_number, is_one_of
from answerpiles.rules import ORDERS, Deed, Waking


def altered_deed(deed, *, answers=None, pays=None, card=None):
    """A deed in which the parts that are given are others."""
    return Deed(
        deed.word,
        opens=deed.opens,
        answers=deed.answers if answers is None else answers,
        whose=deed.whose,
        asks=deed.asks,
        pays=deed.pays if pays is None else pays,
        card=deed.card if card is None else card,
        goals=deed.goals,
        steps=deed.steps,
    )


def with_deed(rules, deed):
    """Rules with a deed in the place of the one with its word, or behind all."""
    deeds = [deed if old.word == deed.word else old for old in rules.deeds]
    if deed.word not in rules:
        deeds.append(deed)
    return rules.changed(deeds=deeds)


def without_deed(rules, word):
    """Rules without a deed, and all else as it is."""
    if word not in rules:
        raise NotThere(word)
    return rules.changed(deeds=[deed for deed in rules.deeds if deed.word != word])


def with_waking(rules, waking):
    """Rules with a waking behind the others."""
    if not isinstance(waking, Waking):
        raise BadArgument(waking)
    return rules.changed(wakings=rules.wakings + [waking])


def is_waking_number(rules, value):
    """Whether any value is the number of a waking of some rules."""
    return is_number(value, 0, len(rules.wakings) - 1)


def without_waking(rules, number):
    """Rules without a waking; those behind it move up."""
    if not is_waking_number(rules, number):
        raise BadArgument(number)
    return rules.changed(wakings=[waking for at, waking in enumerate(rules.wakings) if at != number])


def in_order(rules, order):
    """Rules that are read in an order."""
    if not is_one_of(order, ORDERS):
        raise BadArgument(order)
    return rules.changed(order=order)
