"""Sessions: rules that are edited, edit by edit, and attempts at that."""

from answerpiles.edits import in_order, with_deed, with_waking, without_deed, without_waking
from answerpiles.errors import BadArgument, BadChange, BadRules, NothingLeft, NotThere
from answerpiles.kinds import is_one_of, is_row
from answerpiles.outcomes import always_ends
from answerpiles.rules import Deed, Rules

CHANGES = ("deed", "strike", "wake", "hush", "order")


class Session:
    """Rules as they are, and as they were ahead of each edit."""

    def __init__(self, rules):
        if not isinstance(rules, Rules):
            raise BadRules(rules)
        self._rules = rules
        self._past = ()

    @property
    def rules(self):
        """The rules as they are."""
        return self._rules

    @property
    def reading(self):
        """The order of the rules."""
        return self._rules.order

    @reading.setter
    def reading(self, value):
        self._edit(in_order(self._rules, value))

    def strike(self, word):
        """Takes a deed out."""
        self._edit(without_deed(self._rules, word))

    def wake(self, waking):
        """Adds a waking behind the others."""
        self._edit(with_waking(self._rules, waking))

    def hush(self, number):
        """Takes a waking out."""
        self._edit(without_waking(self._rules, number))

    def undo(self):
        """Takes the last edit back."""
        if not self._past:
            raise NothingLeft()
        self._rules = self._past[-1]
        self._past = self._past[:-1]

    def change(self, change):
        """Makes any value that is a change."""
        self._edit(rules_behind(self._rules, change))

    def would_end(self, change):
        """Whether each pile would come to its end behind a change, or None if it cannot be made."""
        try:
            rules = rules_behind(self._rules, change)
        except (BadArgument, BadChange, BadRules, NotThere):
            return None
        return always_ends(rules)

    def kept(self):
        """The rules as they are, and as they were ahead of each edit."""
        return (self._rules, self._past)

    def _edit(self, rules):
        """Keeps the rules behind an edit."""
        self._past = self._past + (self._rules,)
        self._rules = rules

    def __len__(self):
        return len(self._past)

    def __contains__(self, x):
        return x in self._rules

    def __getitem__(self, at):
        return self._rules[at]

    def __setitem__(self, at, worth):
        if not isinstance(worth, Deed) or worth.word != at:
            raise BadArgument(worth)
        self._edit(with_deed(self._rules, worth))

    def __iter__(self):
        raise TypeError("sessions are not iterated over: take rules")


class Attempt:
    """A context, at the end of which a session is as it was if it is not held fast."""

    def __init__(self, session):
        if not isinstance(session, Session):
            raise BadArgument(session)
        self._session = session
        self._rules = None
        self._past = ()
        # None if all is to stay as it is then.
        self._loose = True

    def hold_fast(self):
        """All is to stay at the end as it is then, if no error comes."""
        self._loose = None

    def __enter__(self):
        self._rules, self._past = self._session.kept()
        self._loose = True
        return self

    def __exit__(self, kind, value, trace):
        session = self._session
        if kind is None and self._loose is None:
            return
        session._rules = self._rules
        session._past = self._past


def attempted(session, changes, *, fast=False):
    """Makes changes in an attempt, and tells whether, behind each, each pile comes to its end."""
    if not isinstance(session, Session):
        raise BadArgument(session)
    if not is_row(changes):
        raise BadChange(changes)
    found = []
    with Attempt(session) as attempt:
        for change in changes:
            try:
                session.change(change)
            except (BadArgument, BadChange, BadRules, NotThere) as why:
                raise BadChange(change) from why
            found.append(always_ends(session.rules))
        if fast is True:
            attempt.hold_fast()
    return found


def rules_behind(rules, change):
    """Rules behind any value that is a change, or the error of the edit."""
    if not is_change(change):
        raise BadChange(change)
    name, value = change
    if name == "deed":
        return with_deed(rules, value)
    if name == "strike":
        return without_deed(rules, value)
    if name == "wake":
        return with_waking(rules, value)
    if name == "hush":
        return without_waking(rules, value)
    return in_order(rules, value)


def is_change(value):
    """Whether any value has the form of a change, whether it can be made or not."""
    if not isinstance(value, tuple) or len(value) != 2 or not is_one_of(value[0], CHANGES):
        return False
    return value[0] != "deed" or isinstance(value[1], Deed)
