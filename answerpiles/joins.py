"""Rules side by side: joined papers, and the parts into which rules fall."""

from answerpiles.errors import BadArgument, BadRules
from answerpiles.falling import is_paper
from answerpiles.kinds import is_row
from answerpiles.rings import Outlook
from answerpiles.rules import Rules, tables_of


def are_apart(one, other):
    """Whether two rules have no word of a deed in common and can be joined."""
    if not isinstance(one, Rules):
        raise BadRules(one)
    if not isinstance(other, Rules):
        raise BadRules(other)
    # With a word in common they cannot be joined, either.
    return joined(one, other) is not None


def joined_paper(one, other, paper, more):
    """A paper of both rules, for plays from all tables, from one of each."""
    if not are_apart(one, other):
        raise BadArgument(other)
    if not is_paper(one, paper, everywhere=True):
        raise BadArgument(paper)
    if not is_paper(other, more, everywhere=True):
        raise BadArgument(more)
    marks = joined(one, other).marks
    found = []
    for row in paper:
        found.extend(widened_rows(row, one.marks, marks))
    for row in more:
        found.extend(widened_rows(row, other.marks, marks))
    return sorted(found, key=str)


def parts_of(rules):
    """The parts into which rules fall, in the order of their first words."""
    if not isinstance(rules, Rules):
        raise BadRules(rules)
    # A deed lies on a pile with those that it answers: it is of their part, too.
    links = [[deed.word] + deed.answers for deed in rules.deeds]
    links.extend([[waking.deed, waking.call] for waking in rules.wakings])
    parts = [[word] for word in rules.words()]
    for link in links:
        met = [part for part in parts if any([word in part for word in link])]
        apart = [part for part in parts if part not in met]
        parts = apart + [sorted([word for part in met for word in part])]
    return sorted(parts)


def only(rules, words):
    """Rules with the deeds of some parts alone, and their wakings."""
    parts = parts_of(rules)
    if not is_row(words) or not all([word in rules for word in words]):
        raise BadArgument(words)
    told = [word for part in parts if part[0] in words for word in part]
    if not told or sorted(words) != sorted(told):
        raise BadArgument(words)
    deeds = [deed for deed in rules.deeds if deed.word in words]
    wakings = [waking for waking in rules.wakings if waking.deed in words]
    return rules.changed(deeds=deeds, wakings=wakings)


def endless_parts(rules):
    """The parts whose rules have a ring from the start."""
    return [part for part in parts_of(rules) if Outlook(only(rules, part)).ring() is not None]


def results_of_parts(rules):
    """For the first word of each part, the tables with which piles of its rules can end."""
    return {part[0]: Outlook(only(rules, part)).results() for part in parts_of(rules)}


def joined(one, other):
    """The rules of both, or None if they cannot be so together."""
    try:
        return one | other
    except BadRules:
        return None


def widened_rows(row, own, marks):
    """A row of a paper by the rules with more marks: one row for all counts of the others."""
    place, number, ends, calm = row
    table, entry, above = place
    others = [mark for mark in marks if mark not in own]
    found = []
    for counts in tables_of([marks[mark] for mark in others]):
        more = dict(zip(others, counts))
        wide = (widened(table, own, more), entry, above)
        found.append((wide, number, widened_ends(ends, own, more), widened_ends(calm, own, more)))
    return found


def widened_ends(ends, own, more):
    """Ends by the rules with more marks, of which these are the counts."""
    found = {(widened(table, own, more), act, doer): True for table, act, doer in ends}
    return sorted(found, key=str)


def widened(table, own, more):
    """A table with the counts of more marks."""
    counts = {**dict(zip(own, table)), **more}
    return tuple([counts[mark] for mark in sorted(counts)])
