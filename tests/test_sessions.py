"""Sessions, and attempts at edits [22]."""

import unittest

from answerpiles.errors import BadArgument, BadChange, BadRules, NothingLeft, NotThere, TooMany
from answerpiles.rings import Outlook
from answerpiles.rules import Deed, Rules, Waking
from answerpiles.sessions import Attempt, Session, attempted

from helpbig import too_many
from helps import ODD, odd_but, raises
from somerules import Numbers, lively_rules, made_rules
from test_rings import striking


def whole():
    deeds = [Deed("a", opens=True, answers=["b"]), Deed("b"), Deed("c", opens=True)]
    return Rules({"m": 2}, deeds, [Waking("done", "a", "c"), Waking("laid", "a", "a", may=True)], seats=3,
                 order="last", start={"m": 1})


class Boom(Exception):
    """An error of the caller's own."""


class SessionTest(unittest.TestCase):
    def check(self, session, rules, edits):
        self.assertEqual(session.rules, rules)
        self.assertEqual(len(session), edits)
        self.assertEqual(session.reading, rules.order)

    def test_ahead_of_all_edits(self):
        session = Session(whole())
        self.check(session, whole(), 0)
        self.assertEqual(session["b"], Deed("b"))
        self.assertIs("b" in session, True)
        for value in odd_but("a") + ["d", "m", ["a"]]:
            self.assertIs(value in session, False)
            with raises(self, NotThere, "word", value):
                session[value]
        with raises(self, NothingLeft, "args", ()):
            session.undo()
        with self.assertRaises(TypeError):
            iter(session)

    def test_rules_cannot_be_set(self):
        session = Session(whole())
        for rules in [whole(), striking(False)]:
            with self.assertRaises(AttributeError):
                session.rules = rules
            self.check(session, whole(), 0)

    def test_setting_deeds(self):
        session = Session(whole())
        deed = Deed("b", opens=True, steps=[("more", "m")])
        session["b"] = deed
        deeds = whole().deeds
        self.check(session, whole().changed(deeds=[deeds[0], deed, deeds[2]]), 1)
        self.assertEqual(session["b"], deed)
        more = Deed("aa", answers=["aa", "b"])
        session["aa"] = more
        self.check(session, whole().changed(deeds=[deeds[0], deed, deeds[2], more]), 2)
        # The same deed once more is an edit, too.
        session["aa"] = more
        self.check(session, whole().changed(deeds=[deeds[0], deed, deeds[2], more]), 3)
        session.undo()
        session.undo()
        self.check(session, whole().changed(deeds=[deeds[0], deed, deeds[2]]), 1)
        session.undo()
        self.check(session, whole(), 0)
        with self.assertRaises(NothingLeft):
            session.undo()

    def test_wrong_deeds(self):
        session = Session(whole())
        for value in ODD + [Deed, Waking("done", "a", "a"), Deed("b"), Deed("d")]:
            with raises(self, BadArgument, "value", value):
                session["a"] = value
        for word in odd_but("a"):
            deed = Deed("a")
            with raises(self, BadArgument, "value", deed):
                session[word] = deed
        for deed in [Deed("d", answers=["e"]), Deed("d", steps=[("more", "k")]), Deed("a", pays={"k": 1}),
                     Deed("b", goals=["n"])]:
            with raises(self, BadRules, "part", "deeds"):
                session[deed.word] = deed
        for word in "def":
            session[word] = Deed(word)
        with raises(self, BadRules, "part", "deeds"):
            session["g"] = Deed("g")
        self.assertEqual(len(session), 3)
        session["f"] = Deed("f", answers=["f"])

    def test_striking_deeds(self):
        session = Session(whole())
        for value in odd_but("a") + ["d", ["a"], "m"]:
            with raises(self, NotThere, "word", value):
                session.strike(value)
        # One that another one answers, one that a waking calls, one that wakes.
        with raises(self, BadRules, "part", "deeds"):
            session.strike("b")
        for word in ["c", "a"]:
            with raises(self, BadRules, "part", "wakings"):
                session.strike(word)
        self.check(session, whole(), 0)
        session.hush(0)
        session.hush(0)
        self.assertIsNone(session.strike("c"))
        self.check(session, whole().changed(deeds=whole().deeds[:2], wakings=[]), 3)
        # The last one that opens, but not the last one.
        session.strike("a")
        self.check(session, whole().changed(deeds=[Deed("b")], wakings=[]), 4)
        with raises(self, BadRules, "part", "deeds"):
            session.strike("b")
        for _ in range(4):
            session.undo()
        self.check(session, whole(), 0)

    def test_an_answer_is_told_ahead_of_a_call(self):
        rules = Rules({}, [Deed("a", answers=["b"]), Deed("b")], [Waking("done", "a", "b")])
        with raises(self, BadRules, "part", "deeds"):
            Session(rules).strike("b")
        # A deed that answers itself alone can be struck.
        session = Session(Rules({}, [Deed("a", answers=["a"]), Deed("b")]))
        session.strike("a")
        self.assertEqual(session.rules, Rules({}, [Deed("b")]))

    def test_waking_and_hushing(self):
        session = Session(whole())
        more = Waking("struck", "b", "c")
        self.assertIsNone(session.wake(more))
        self.check(session, whole().changed(wakings=whole().wakings + [more]), 1)
        for value in ODD + [Waking, Deed("a")]:
            with raises(self, BadArgument, "value", value):
                session.wake(value)
        for waking in [Waking("done", "a", "d"), Waking("done", "d", "a"), more, Waking("done", "a", "c", may=True)]:
            with raises(self, BadRules, "part", "wakings"):
                session.wake(waking)
        session.wake(Waking("done", "a", "c", by="next"))
        with raises(self, BadRules, "part", "wakings"):
            session.wake(Waking("done", "b", "b"))
        for value in odd_but(0, 1, 2) + [4, -1, "0", [0]]:
            with raises(self, BadArgument, "value", value):
                session.hush(value)
        self.assertIsNone(session.hush(1))
        wakings = [whole().wakings[0], more, Waking("done", "a", "c", by="next")]
        self.check(session, whole().changed(wakings=wakings), 3)
        session.hush(2)
        session.hush(0)
        session.hush(0)
        with raises(self, BadArgument, "value", 0):
            session.hush(0)
        self.check(session, whole().changed(wakings=[]), 6)

    def test_reading(self):
        session = Session(whole())
        for count, order in enumerate(["any", "any", "last", "first"], 1):
            session.reading = order
            self.check(session, whole().changed(order=order), count)
        for value in odd_but("first") + ["Last", "again", ["any"], b"any"]:
            with raises(self, BadArgument, "value", value):
                session.reading = value
        self.check(session, whole().changed(order="first"), 4)
        session.undo()
        session.undo()
        self.check(session, whole().changed(order="any"), 2)

    def test_undo_behind_refused_edits(self):
        session = Session(whole())
        session.reading = "any"
        for edit in [lambda: session.strike("d"), lambda: session.hush(9), lambda: session.wake(None),
                     lambda: session.change(("order", 1)), lambda: session.change(None),
                     lambda: session.strike("b")]:
            with self.assertRaises((BadArgument, BadChange, BadRules, NotThere)):
                edit()
            self.check(session, whole().changed(order="any"), 1)
        session.undo()
        self.check(session, whole(), 0)

    def test_changes(self):
        deed, waking = Deed("d", answers=["a"]), Waking("done", "d", "d")
        session, other = Session(whole()), Session(whole())
        for change, edit in [
            (("deed", deed), lambda: other.__setitem__("d", deed)), (("wake", waking), lambda: other.wake(waking)),
            (("hush", 1), lambda: other.hush(1)), (("order", "any"), lambda: setattr(other, "reading", "any")),
            (("deed", Deed("d")), lambda: other.__setitem__("d", Deed("d"))), (("hush", 1), lambda: other.hush(1)),
            (("strike", "d"), lambda: other.strike("d")),
        ]:
            self.assertIsNone(session.change(change))
            edit()
            self.check(session, other.rules, len(other))
        self.assertEqual(len(session), 7)

    def test_wrong_changes(self):
        session = Session(whole())
        wrong = ODD + [
            ("deed", "a"), ("deed", Deed), ("deed", None), ("strike",), ("strike", "a", "b"), ["strike", "a"],
            ("undo", None), ("rules", whole()), ("Strike", "a"), (["strike"], "a"), (0, "a"), "strike", ("deed",),
            ("order", "any", None), (None, None),
        ]
        for value in wrong:
            with raises(self, BadChange, "value", value):
                session.change(value)
            self.assertIsNone(session.would_end(value))
        for value in ODD:
            if value != "a":
                with raises(self, NotThere, "word", value):
                    session.change(("strike", value))
            with raises(self, BadArgument, "value", value):
                session.change(("wake", value))
            if value != "first":
                with raises(self, BadArgument, "value", value):
                    session.change(("order", value))
            if not (isinstance(value, int) and not isinstance(value, bool) and 0 <= value <= 1):
                with raises(self, BadArgument, "value", value):
                    session.change(("hush", value))
        for change, part in [(("deed", Deed("d", answers=["e"])), "deeds"), (("strike", "b"), "deeds"),
                             (("strike", "c"), "wakings"), (("wake", Waking("done", "a", "c")), "wakings")]:
            with raises(self, BadRules, "part", part):
                session.change(change)
            self.assertIsNone(session.would_end(change))
        self.check(session, whole(), 0)

    def test_would_end(self):
        session = Session(striking(False))
        card = Deed("hit", answers=["a"], steps=[("strike",)])
        self.assertIs(session.would_end(("order", "last")), False)
        self.assertIs(session.would_end(("hush", 0)), True)
        self.assertIs(session.would_end(("deed", card)), True)
        self.assertIs(session.would_end(("deed", Deed("b"))), False)
        self.assertIsNone(session.would_end(("strike", "hit")))
        self.assertIsNone(session.would_end(("hush", 1)))
        self.assertIsNone(session.would_end(("wake", None)))
        self.check(session, striking(False), 0)
        # From the start: what opens from other tables alone does not count.
        rules = Rules({"m": 1}, [Deed("a", opens=True, asks={"m": 1})], [Waking("done", "a", "a")])
        self.assertIs(Session(rules).would_end(("order", "any")), True)
        self.assertIs(Session(rules.changed(start={"m": 1})).would_end(("order", "any")), False)

    def test_too_many_places(self):
        session = Session(too_many())
        with raises(self, TooMany, "most", 2000):
            session.would_end(("order", "last"))
        self.assertIsNone(session.would_end(("order", "x")))
        self.assertIs(session.would_end(("deed", Deed("a"))), True)
        session["a"] = Deed("a")
        self.assertEqual(len(session), 1)

    def test_wrong_rules(self):
        for value in ODD + [Rules, Session(whole())]:
            with raises(self, BadRules, "part", value):
                Session(value)

    def test_any_edits(self):
        for seed in range(150):
            numbers = Numbers(seed)
            session = Session(made_rules(seed, 4))
            past = [session.rules]
            for _ in range(10):
                change = some_change(numbers)
                ends = session.would_end(change)
                self.assertEqual((session.rules, len(session)), (past[-1], len(past) - 1))
                try:
                    session.change(change)
                except (BadArgument, BadRules, NotThere):
                    self.assertIsNone(ends)
                    self.assertEqual((session.rules, len(session)), (past[-1], len(past) - 1))
                    continue
                past.append(session.rules)
                self.assertIs(ends, Outlook(session.rules).ring() is None)
                self.assertEqual(len(session), len(past) - 1)
                if numbers.chance(1, 4):
                    session.undo()
                    past.pop()
            while len(past) > 1:
                past.pop()
                session.undo()
                self.assertEqual(session.rules, past[-1])
            self.assertEqual(len(session), 0)

    def test_by_name(self):
        session = Session(rules=whole())
        session.wake(waking=Waking("done", "c", "c"))
        session.hush(number=0)
        session.change(change=("order", "any"))
        self.assertIs(session.would_end(change=("strike", "c")), None)
        session.hush(1)
        session.strike(word="c")
        self.assertEqual(len(session), 5)

    def test_caller_may_change_what_is_told(self):
        session = Session(whole())
        session.rules.deeds.clear()
        session.rules.wakings.append(None)
        session["a"].answers.clear()
        self.check(session, whole(), 0)


def some_change(numbers):
    word = numbers.one_of("abcdef")
    return numbers.one_of([
        ("deed", Deed(word, opens=numbers.chance(1, 2), answers=numbers.some_of("abc", 3), card=numbers.chance(1, 2))),
        ("strike", word), ("hush", numbers.below(4)), ("order", numbers.one_of(["first", "last", "any", "none"])),
        ("wake", Waking(numbers.one_of(["laid", "done", "struck"]), word, numbers.one_of("abc"))),
    ])


class AttemptTest(unittest.TestCase):
    def check(self, session, rules, edits):
        self.assertEqual((session.rules, len(session)), (rules, edits))

    def test_not_held_fast(self):
        session = Session(whole())
        session.reading = "any"
        attempt = Attempt(session)
        with attempt as held:
            self.assertIs(held, attempt)
            session.hush(0)
            session.hush(0)
            self.assertEqual(len(session), 3)
        self.check(session, whole().changed(order="any"), 1)
        session.undo()
        self.check(session, whole(), 0)

    def test_held_fast(self):
        session = Session(whole())
        with Attempt(session) as attempt:
            session.hush(0)
            self.assertIsNone(attempt.hold_fast())
            session.reading = "first"
        self.check(session, whole().changed(wakings=whole().wakings[1:], order="first"), 2)
        session.undo()
        session.undo()
        self.check(session, whole(), 0)

    def test_left_by_an_error(self):
        session = Session(whole())
        session.reading = "any"
        for hold in [False, True]:
            with self.assertRaises(Boom):
                with Attempt(session) as attempt:
                    session.hush(0)
                    if hold:
                        attempt.hold_fast()
                    raise Boom
            self.check(session, whole().changed(order="any"), 1)
        with raises(self, NotThere, "word", "x"):
            with Attempt(session) as attempt:
                session.hush(0)
                attempt.hold_fast()
                session.strike("x")
        self.check(session, whole().changed(order="any"), 1)

    def test_edits_taken_back_within(self):
        session = Session(whole())
        session.reading = "any"
        session.reading = "first"
        with Attempt(session):
            session.undo()
            session.undo()
            session.hush(0)
        self.check(session, whole().changed(order="first"), 2)
        session.undo()
        self.check(session, whole().changed(order="any"), 1)
        with Attempt(session) as attempt:
            session.undo()
            session.hush(1)
            attempt.hold_fast()
        self.check(session, whole().changed(wakings=whole().wakings[:1]), 1)
        session.undo()
        self.check(session, whole(), 0)

    def test_within_one_another(self):
        for outer, inner in [(False, False), (False, True), (True, False), (True, True)]:
            session = Session(whole())
            with Attempt(session) as one:
                session.reading = "any"
                with Attempt(session) as other:
                    session.hush(0)
                    if inner:
                        other.hold_fast()
                self.assertEqual(len(session), 1 + inner)
                if outer:
                    one.hold_fast()
            wakings = whole().wakings[1:] if inner else whole().wakings
            wanted = whole().changed(order="any", wakings=wakings) if outer else whole()
            self.check(session, wanted, outer * (1 + inner))

    def test_one_behind_another(self):
        session = Session(whole())
        attempt = Attempt(session)
        with attempt:
            session.reading = "any"
            attempt.hold_fast()
        self.check(session, whole().changed(order="any"), 1)
        # What was held fast before counts no more, nor what is said ahead of it.
        attempt.hold_fast()
        with attempt:
            session.hush(0)
        self.check(session, whole().changed(order="any"), 1)
        with self.assertRaises(Boom):
            with attempt:
                session.hush(0)
                raise Boom
        with attempt as held:
            session.hush(0)
            held.hold_fast()
        self.assertEqual(len(session), 2)

    def test_the_beginning_is_that_of_the_with(self):
        session = Session(whole())
        attempt = Attempt(session)
        session.reading = "any"
        with attempt:
            session.hush(0)
        self.check(session, whole().changed(order="any"), 1)

    def test_wrong_sessions(self):
        for value in ODD + [Session, whole()]:
            with raises(self, BadArgument, "value", value):
                Attempt(value)
            with raises(self, BadArgument, "value", value):
                attempted(value, None)


class AttemptedTest(unittest.TestCase):
    def test_whether_each_pile_ends_behind_each(self):
        session = Session(striking(False))
        session.reading = "first"
        changes = [("order", "last"), ("hush", 0), ("wake", Waking("done", "hit", "a")),
                   ("deed", Deed("hit", answers=["a"], steps=[("strike",)])), ("deed", Deed("b"))]
        for given in [changes, tuple(changes)]:
            self.assertEqual(attempted(session, given), [False, True, False, True, True])
            self.assertEqual((session.rules, len(session)), (striking(False), 1))
        self.assertEqual(attempted(session, [], fast=True), [])
        self.assertEqual(attempted(session, changes[:2], fast=False), [False, True])
        self.assertEqual(len(session), 1)
        self.assertEqual(attempted(session, changes[:2], fast=True), [False, True])
        self.assertEqual((session.rules, len(session)), (striking(False).changed(order="last", wakings=[]), 3))

    def test_changes_that_cannot_be_made(self):
        session = Session(striking(False))
        bad = [
            (("strike", "x"), NotThere, "word", "x"), (("hush", 1), BadArgument, "value", 1),
            (("wake", None), BadArgument, "value", None), (("order", "x"), BadArgument, "value", "x"),
            (("strike", "hit"), BadRules, "part", "wakings"), (("strike", "a"), BadRules, "part", "deeds"),
            (("deed", Deed("b", answers=["c"])), BadRules, "part", "deeds"),
        ]
        for change, kind, field, value in bad:
            for ahead, behind in [([], []), ([("order", "any")], []), ([("order", "any")], [("hush", 0), None])]:
                with self.assertRaises(BadChange) as caught:
                    attempted(session, ahead + [change] + behind, fast=True)
                self.assertIs(caught.exception.value, change)
                cause = caught.exception.__cause__
                self.assertIs(type(cause), kind)
                self.assertEqual(getattr(cause, field), value)
                self.assertEqual((session.rules, len(session)), (striking(False), 0))
        for value in odd_but() + [("deed", "a"), ["order", "any"], ("undo", None)]:
            with raises(self, BadChange, "value", value):
                attempted(session, [("hush", 0), value, ("hush", 9)], fast=True)
            self.assertEqual((session.rules, len(session)), (striking(False), 0))

    def test_wrong_changes(self):
        session = Session(whole())
        for value in odd_but([], (), [()], ((),), [None], (None,), [[]], ({},), [1, "a"], (0, 0), (True,), [{}],
                             [{}, {}], [{}, {}, {}], ("done", "steps", (), ()), ("lay", 0, "a", None, ())):
            with raises(self, BadChange, "value", value):
                attempted(session, value)
        for value in [{("hush", 0): 1}, iter([("hush", 0)]), "hush"]:
            with raises(self, BadChange, "value", value):
                attempted(session, value)
        with self.assertRaises(TypeError):
            attempted(session, [], True)

    def test_too_many_if_it_comes_first(self):
        session = Session(too_many().changed(deeds=[Deed("a")] + too_many().deeds[1:]))
        before = session.rules
        opening = ("deed", Deed("a", opens=True))
        for fast in [False, True]:
            with raises(self, TooMany, "most", 2000):
                attempted(session, [("order", "any"), opening, ("strike", "q")], fast=fast)
            self.assertEqual((session.rules, len(session)), (before, 0))
        with raises(self, BadChange, "value", ("strike", "q")):
            attempted(session, [("order", "any"), ("strike", "q"), opening])

    def test_what_is_told_goes_together(self):
        made = 0
        for seed in range(120):
            numbers = Numbers(seed)
            rules = lively_rules(seed)
            for _ in range(4):
                session = Session(rules)
                change = some_change(numbers)
                ends = session.would_end(change)
                if ends is None:
                    with self.assertRaises(BadChange):
                        attempted(session, [change])
                    continue
                made += 1
                self.assertEqual(attempted(session, [change]), [ends])
                self.assertEqual(attempted(session, [change], fast=True), [ends])
                self.assertIs(Outlook(session.rules).ring() is None, ends)
                rules = session.rules
        self.assertGreater(made, 100)

    def test_by_name(self):
        session = Session(rules=striking(False))
        self.assertEqual(attempted(fast=True, changes=[("hush", 0)], session=session), [True])
        with Attempt(session=session):
            session.undo()
        self.assertEqual(len(session), 1)

    def test_caller_may_change_what_was_given_and_told(self):
        session = Session(striking(False))
        changes = [("hush", 0)]
        found = attempted(session, changes, fast=True)
        found.clear()
        changes.clear()
        self.assertEqual((session.rules, len(session)), (striking(False).changed(wakings=[]), 1))


if __name__ == "__main__":
    unittest.main()
