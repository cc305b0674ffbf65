"""Parts of rules that make no odds: what is never laid, and what can be left out."""

from answerpiles.compared import alike, endings, parting
from answerpiles.edits import altered_deed, is_waking_number, without_waking
from answerpiles.errors import BadArgument, BadNumber, BadRules
from answerpiles.kinds import is_one_of
from answerpiles.outcomes import calls_laid, words_laid
from answerpiles.rules import Rules
from answerpiles.walks import full_walk


def unlaid(rules, *, everywhere=False):
    """The words of the deeds that no seat lays in any play, ascending."""
    if not isinstance(rules, Rules):
        raise BadRules(rules)
    walk, begins = full_walk(rules, everywhere)
    laid = words_laid(walk, begins)
    return [word for word in rules.words() if word not in laid]


def unwoken(rules, *, everywhere=False):
    """The numbers of the wakings whose call is never laid, ascending."""
    if not isinstance(rules, Rules):
        raise BadRules(rules)
    walk, begins = full_walk(rules, everywhere)
    laid = calls_laid(walk, begins)
    return [number for number in range(len(rules.wakings)) if number not in laid]


def without(rules, part):
    """Rules without a deed or a waking, or None if it is the only deed."""
    if not isinstance(rules, Rules):
        raise BadRules(rules)
    if not is_part(rules, part):
        raise BadArgument(part)
    kind, which = part
    if kind == "waking":
        return without_waking(rules, which)
    if len(rules) == 1:
        return None
    deeds = []
    for deed in rules.deeds:
        if deed.word != which:
            deeds.append(altered_deed(deed, answers=[word for word in deed.answers if word != which]))
    wakings = [waking for waking in rules.wakings if which not in (waking.deed, waking.call)]
    return rules.changed(deeds=deeds, wakings=wakings)


def needless(rules):
    """The parts without which piles begin and end alike: first the deeds, then the wakings."""
    told = endings(rules)
    return [part for part in all_parts(rules) if is_needless(rules, part, told)]


def bare(rules):
    """Rules behind leaving out the first needless part, as long as there is one."""
    told = endings(rules)
    left = rules
    part = first_needless(left, told)
    while part is not None:
        left = without(left, part)
        part = first_needless(left, told)
    return left


def odds(rules, number):
    """What parts rules from those without a waking, or None."""
    if not isinstance(rules, Rules):
        raise BadRules(rules)
    if not is_waking_number(rules, number):
        raise BadNumber(number)
    return parting(rules, without_waking(rules, number))


def vain_mays(rules):
    """The numbers of the wakings that may, without which rules are alike."""
    if not isinstance(rules, Rules):
        raise BadRules(rules)
    mays = [number for number, waking in enumerate(rules.wakings) if waking.may]
    return [number for number in mays if alike(rules, without_waking(rules, number))]


def is_part(rules, value):
    """Whether any value is a part of some rules."""
    if not isinstance(value, tuple) or len(value) != 2:
        return False
    kind, which = value
    if is_one_of(kind, ("deed",)):
        return which in rules
    return is_one_of(kind, ("waking",)) and is_waking_number(rules, which)


def all_parts(rules):
    """All parts of rules: the deeds by their words, then the wakings by their numbers."""
    deeds = [("deed", word) for word in rules.words()]
    return deeds + [("waking", number) for number in range(len(rules.wakings))]


def is_needless(rules, part, told):
    """Whether rules without a part have the endings that are told."""
    rest = without(rules, part)
    return rest is not None and endings(rest) == told


def first_needless(rules, told):
    """The first part of rules without which they have the endings that are told, or None."""
    for part in all_parts(rules):
        if is_needless(rules, part, told):
            return part
    return None
