"""Entries that fail, but the steps of a copy or of a call of them were done all the same [18]."""

import itertools
import unittest

import refonepile

from answerpiles.errors import BadArgument, BadRules, NotThere, TooMany
from answerpiles.piles import State
from answerpiles.rules import Deed, Rules, Waking
from answerpiles.slips import is_slip, slip_play, slips

from helpbig import too_many, too_many_by_last
from helps import ODD, odd_but, raises
from somerules import Numbers, lively_rules, made_rules, ordered_rules

GONE = ("done", "steps", (), ())
KINDS = ["call", "copy"]
FAILS = ["instead", "struck"]


def lay(seat, word, *calls, goal=None):
    return ("lay", seat, word, goal, tuple((number, None) for number in calls))


def done(*calls, struck=()):
    return ("done", "steps", tuple((number, None) for number in struck), tuple((number, None) for number in calls))


def instead(*calls):
    return ("done", "instead", (), tuple((number, None) for number in calls))


def struck(calls=True, **more):
    """A deed that calls another one when it is laid, and can be struck."""
    deeds = [Deed("a", opens=True), Deed("b"), Deed("hit", answers=["a"], steps=[("strike",)])]
    return Rules({}, deeds, [Waking("laid", "a", "b")] if calls else [], **more)


def copied(**more):
    """A deed that can be copied and struck."""
    deeds = [Deed("a", opens=True), Deed("dup", answers=["a"], steps=[("again",)]),
             Deed("hit", answers=["a"], steps=[("strike",)])]
    return Rules({}, deeds, **more)


def all_slips(rules):
    return [(word, kind, fail) for word in rules.words() for kind in KINDS for fail in FAILS]


class ExamplesTest(unittest.TestCase):
    def check(self, rules, slip, play):
        """The slip is told, with a play as long as this one, which is one too."""
        self.assertIn(slip, slips(rules))
        found = slip_play(rules, *slip)
        self.assertIsInstance(found, list)
        self.assertEqual(len(found), len(play), found)
        self.assertIs(is_slip(rules, *slip, found), True)
        self.assertIs(is_slip(rules, *slip, play), True)
        for other in all_slips(rules):
            if other != slip:
                self.assertIs(is_slip(rules, *other, play), False, other)

    def test_by_a_call_before_it_is_struck(self):
        rules = struck()
        self.assertEqual(slips(rules), [("a", "call", "struck")])
        self.check(rules, ("a", "call", "struck"), [lay(0, "a", 0), GONE, lay(1, "hit"), GONE])

    def test_by_a_call_in_the_very_move(self):
        rules = Rules({}, [Deed("a", opens=True), Deed("b", steps=[("strike",)])], [Waking("laid", "a", "b")])
        self.assertEqual(slips(rules), [("a", "call", "struck")])
        self.check(rules, ("a", "call", "struck"), [lay(0, "a", 0), GONE])

    def test_by_a_call_before_calls_are_laid_in_its_place(self):
        rules = Rules({}, [Deed("a", opens=True), Deed("b")], [Waking("laid", "a", "b"), Waking("instead", "a", "b")])
        self.assertEqual(slips(rules), [("a", "call", "instead")])
        self.check(rules, ("a", "call", "instead"), [lay(0, "a", 0), GONE, instead(1)])

    def test_by_a_copy_before(self):
        rules = copied()
        self.assertEqual(slips(rules), [("a", "copy", "struck")])
        play = [lay(0, "a"), lay(0, "dup"), GONE, GONE, lay(1, "hit"), GONE]
        self.check(rules, ("a", "copy", "struck"), play)
        # The copy that is struck itself has done nothing.
        early = [lay(0, "a"), lay(0, "dup"), GONE, lay(1, "hit"), GONE, lay(1, "hit"), GONE]
        State(rules).played(early)
        self.assertIs(is_slip(rules, "a", "copy", "struck", early), False)

    def test_calls_lie_above_the_copy(self):
        rules = copied()
        rules = rules.changed(deeds=rules.deeds + [Deed("c")], wakings=[Waking("done", "dup", "c")])
        play = [lay(0, "a"), lay(0, "dup"), done(0), GONE, GONE, lay(1, "hit"), GONE]
        self.check(rules, ("a", "copy", "struck"), play)
        # The call is no copy: that it is done, or strikes the copy, counts for nothing.
        self.assertIs(is_slip(rules, "a", "copy", "struck", play[:4] + [lay(1, "hit"), GONE]), False)
        hit = rules.changed(deeds=rules.deeds[:3] + [Deed("c", steps=[("strike",)])], wakings=[
            Waking("done", "dup", "c")])
        self.check(hit, ("a", "copy", "struck"), play)

    def test_by_a_copy_in_the_very_move(self):
        # The copy strikes the entry of which it is a copy.
        deeds = [Deed("o", opens=True), Deed("a", answers=["o"], steps=[("strike",)]),
                 Deed("dup", answers=["a"], steps=[("again",)])]
        rules = Rules({}, deeds)
        self.assertEqual(slips(rules), [("a", "copy", "struck")])
        self.check(rules, ("a", "copy", "struck"), [lay(0, "o"), lay(1, "a"), lay(0, "dup"), GONE, GONE])

    def test_by_a_copy_before_calls_are_laid_in_its_place(self):
        deeds = [Deed("a", opens=True), Deed("dup", answers=["a"], steps=[("again",)]), Deed("c", pays={"m": 1})]
        rules = Rules({"m": 1}, deeds, [Waking("instead", "a", "c")], start={"m": 1})
        # The copy is left in peace only while the mark is not there: it never is behind that.
        self.assertEqual(slips(rules), [])
        may = rules.changed(wakings=[Waking("instead", "a", "c", may=True)])
        self.assertEqual(slips(may), [("a", "copy", "instead")])
        self.check(may, ("a", "copy", "instead"), [lay(0, "a"), lay(1, "dup"), GONE, GONE, instead(0)])
        # If calls come in the place of the copy, its own steps are not done.
        play = [lay(0, "a"), lay(1, "dup"), GONE, instead(0), GONE]
        State(may).played(play)
        self.assertIs(is_slip(may, "a", "copy", "instead", play[:-1]), False)

    def test_steps_of_a_call_must_be_done(self):
        rules = struck()
        play = [lay(0, "a", 0), lay(1, "hit")]
        self.assertIs(is_slip(rules, "a", "call", "struck", play), False)
        # Calls come in the place of the call, or it is struck: its steps are not done.
        deeds = [Deed("a", opens=True), Deed("b"), Deed("c"), Deed("hit", answers=["a", "b"], steps=[("strike",)])]
        rules = Rules({}, deeds, [Waking("laid", "a", "b"), Waking("instead", "b", "c")])
        self.assertEqual(slips(rules), [])
        play = [lay(0, "a", 0), instead(1), GONE, lay(1, "hit"), GONE]
        self.assertTrue(State(rules).played(play)[-1].is_over)
        self.assertIs(is_slip(rules, "a", "call", "struck", play), False)
        rules = Rules({}, deeds, [Waking("laid", "a", "b")])
        play = [lay(0, "a", 0), lay(1, "hit"), GONE, lay(1, "hit"), GONE]
        self.assertTrue(State(rules).played(play)[-1].is_over)
        self.assertIs(is_slip(rules, "a", "call", "struck", play), False)

    def test_a_call_of_done_is_none_of_its_laying(self):
        # A deed that strikes calls another one: not by its laying.
        deeds = [Deed("a", opens=True), Deed("b", answers=["a"], steps=[("strike",)]), Deed("c")]
        rules = Rules({}, deeds, [Waking("done", "b", "c"), Waking("struck", "a", "c")])
        self.assertEqual(slips(rules), [])

    def test_a_copy_of_a_copy(self):
        deeds = [Deed("o", opens=True), Deed("a", answers=["o"]), Deed("dup", answers=["a"], steps=[("again",)]),
                 Deed("hit", answers=["a"], steps=[("strike",)])]
        rules = Rules({}, deeds)
        self.assertEqual(slips(rules), [("a", "copy", "struck")])
        # The copy of the copy is done, the copy is struck, and so is the entry.
        head = [lay(0, "o"), lay(0, "a"), lay(0, "dup"), GONE, lay(0, "dup"), GONE, GONE]
        play = head + [lay(1, "hit"), GONE, lay(1, "hit"), GONE]
        self.assertEqual(len(State(rules).played(play)[-1]), 1)
        self.assertIs(is_slip(rules, "a", "copy", "struck", play), False)
        self.assertIs(is_slip(rules, "a", "copy", "struck", head + [lay(1, "hit"), GONE]), False)
        # But when the copy is done, too, the entry slips.
        self.assertIs(is_slip(rules, "a", "copy", "struck", head + [GONE, lay(1, "hit"), GONE]), True)

    def test_a_copy_of_a_call(self):
        deeds = [Deed("a", opens=True), Deed("b"), Deed("dup", answers=["b"], steps=[("again",)]),
                 Deed("hit", answers=["a", "b"], steps=[("strike",)])]
        rules = Rules({}, deeds, [Waking("laid", "a", "b")])
        # A copy of the call is done, but the call is struck.
        play = [lay(0, "a", 0), lay(1, "dup"), GONE, GONE, lay(1, "hit"), GONE, lay(1, "hit"), GONE]
        self.assertTrue(State(rules).played(play)[-1].is_over)
        for kind in KINDS:
            self.assertIs(is_slip(rules, "a", kind, "struck", play), False)

    def test_an_entry_that_is_itself_a_call_or_a_copy(self):
        # The call is copied, and the copy done: but no seat laid what is struck then.
        deeds = [Deed("a", opens=True), Deed("b"), Deed("dup", answers=["b"], steps=[("again",)]),
                 Deed("hit", answers=["b"], steps=[("strike",)])]
        rules = Rules({}, deeds, [Waking("laid", "a", "b")])
        self.assertEqual(slips(rules), [])
        play = [lay(0, "a", 0), lay(1, "dup"), GONE, GONE, lay(1, "hit"), GONE]
        State(rules).played(play)
        self.assertIs(is_slip(rules, "b", "copy", "struck", play), False)
        # Laid by a seat, it slips.
        opening = rules.changed(deeds=[Deed("b", opens=True)] + [deed for deed in rules.deeds if deed.word != "b"])
        self.assertEqual(slips(opening), [("b", "copy", "struck")])

    def test_a_call_of_a_call(self):
        # Calls do not wake laid: what is done is a call of the event done of the call.
        deeds = [Deed("a", opens=True), Deed("b"), Deed("c", steps=[("strike",)])]
        rules = Rules({}, deeds, [Waking("laid", "a", "b"), Waking("done", "b", "c"), Waking("laid", "b", "c")])
        self.assertEqual(slips(rules), [])
        hit = rules.changed(deeds=rules.deeds + [Deed("hit", answers=["a"], steps=[("strike",)])])
        self.assertEqual(slips(hit), [("a", "call", "struck")])

    def test_a_call_that_is_turned_is_the_same(self):
        deeds = [Deed("a", opens=True), Deed("b", goals=["m", "n"], steps=[("more", "goal")]),
                 Deed("turn", answers=["b"], steps=[("turn",)]),
                 Deed("hit", answers=["a"], asks={"n": 1}, steps=[("strike",)])]
        rules = Rules({"m": 1, "n": 1}, deeds, [Waking("laid", "a", "b")])
        opening = ("lay", 0, "a", None, ((0, "m"),))
        play = [opening, lay(1, "turn"), GONE, GONE, lay(1, "hit"), GONE]
        self.assertEqual(State(rules).played(play)[-1].table, (0, 1))
        self.assertIs(is_slip(rules, "a", "call", "struck", play), True)
        self.assertEqual(slips(rules), [("a", "call", "struck")])
        self.assertEqual(len(slip_play(rules, "a", "call", "struck")), 4)

    def test_an_entry_that_is_turned_is_the_same(self):
        deeds = [Deed("a", opens=True, goals=["m", "n"]), Deed("b"), Deed("turn", answers=["a"], steps=[("turn",)]),
                 Deed("hit", answers=["a"], steps=[("strike",)])]
        rules = Rules({"m": 1, "n": 1}, deeds, [Waking("laid", "a", "b")])
        play = [lay(0, "a", 0, goal="m"), GONE, lay(1, "turn"), GONE, lay(1, "hit"), GONE]
        self.assertIs(is_slip(rules, "a", "call", "struck", play), True)

    def test_the_same_deed_above_itself(self):
        # The upper one slips; the lower one, whose call was struck, does not.
        deeds = [Deed("a", opens=True, answers=["a", "b"]), Deed("b"),
                 Deed("hit", answers=["a", "b"], steps=[("strike",)])]
        rules = Rules({}, deeds, [Waking("laid", "a", "b")])
        head = [lay(0, "a", 0), lay(1, "a", 0), GONE]
        upper = head + [lay(0, "hit"), GONE]
        self.assertIs(is_slip(rules, "a", "call", "struck", upper), True)
        lower = upper + [lay(0, "hit"), GONE, lay(0, "hit"), GONE]
        self.assertEqual(len(State(rules).played(lower)[-1]), 0)
        self.assertIs(is_slip(rules, "a", "call", "struck", lower), False)
        self.assertIs(is_slip(rules, "a", "call", "struck", upper + [GONE, lay(0, "hit"), GONE]), True)

    def test_a_copy_lies_on_an_entry_of_the_same_deed(self):
        deeds = [Deed("o", opens=True), Deed("a", answers=["o", "a"], steps=[("again",)]),
                 Deed("hit", answers=["a"], steps=[("strike",)])]
        rules = Rules({}, deeds)
        # The upper one copies the lower one; the copy copies it once more, and so on.
        head = [lay(0, "o"), lay(0, "a"), lay(1, "a"), GONE]
        self.assertIs(is_slip(rules, "a", "copy", "struck", head + [lay(1, "hit"), GONE, lay(1, "hit"), GONE]), False)
        self.assertIs(is_slip(rules, "a", "copy", "struck", head + [GONE, lay(1, "hit"), GONE]), False)
        play = head + [GONE, lay(1, "hit"), GONE, lay(1, "hit"), GONE]
        self.assertIs(is_slip(rules, "a", "copy", "struck", play), True)
        self.assertEqual(len(slip_play(rules, "a", "copy", "struck")), len(play))

    def test_an_answer_is_reached_with_the_fewest_moves(self):
        deeds = [Deed("o", opens=True, asks={"m": 1}), Deed("p", opens=True, steps=[("more", "m")]),
                 Deed("b"), Deed("hit", answers=["c"], steps=[("strike",)]),
                 Deed("c", answers=["o", "p"], asks={"m": 1}), Deed("q", answers=["p"], steps=[("more", "m")])]
        rules = Rules({"m": 1}, deeds, [Waking("laid", "c", "b")])
        # With the mark only an answer that is done ahead leads on.
        play = [lay(0, "p"), lay(0, "q"), GONE, lay(0, "c", 0), GONE, lay(1, "hit"), GONE]
        self.check(rules, ("c", "call", "struck"), play)
        short = [lay(0, "o"), lay(0, "c", 0), GONE, lay(1, "hit"), GONE]
        self.check(rules.changed(start={"m": 1}), ("c", "call", "struck"), short)
        # From the start alone: with 1 of the mark as the start there is a shorter one.
        self.assertIs(is_slip(rules, "c", "call", "struck", short), False)

    def test_orders(self):
        deeds = [Deed("a", opens=True), Deed("b", pays={"m": 1}), Deed("c", pays={"m": 1}, steps=[("strike",)])]
        wakings = [Waking("laid", "a", "b"), Waking("laid", "a", "c")]
        rules = Rules({"m": 1}, deeds, wakings, start={"m": 1})
        for order, wanted in [("first", []), ("last", [("a", "call", "struck")]), ("any", [("a", "call", "struck")])]:
            self.assertEqual(slips(rules.changed(order=order)), wanted)

    def test_nothing_slips(self):
        self.assertEqual(slips(struck(False)), [])
        self.assertEqual(slips(Rules({}, [Deed("a")], [Waking("laid", "a", "a")])), [])
        for slip in all_slips(struck(False)):
            self.assertIsNone(slip_play(struck(False), *slip))


class AgreementTest(unittest.TestCase):
    def kinds_of_rules(self):
        # In the last ones an answer with fewer moves behind it is not the one with the fewest of all.
        for seed in list(range(160)) + [743, 1300, 1645]:
            yield seed, lively_rules(seed)
            if seed % 4 == 0:
                yield seed, made_rules(seed)
                yield seed, ordered_rules(seed)

    def test_slips_and_fewest_moves_of_all_plays(self):
        compared = many = 0
        for seed, rules in self.kinds_of_rules():
            told = slips(rules)
            self.assertEqual(told, sorted(set(told)))
            plays = {}
            for slip in all_slips(rules):
                found = slip_play(rules, *slip)
                self.assertEqual(found is not None, slip in told, (seed, slip))
                if found is not None:
                    plays[slip] = found
                    self.assertIs(is_slip(rules, *slip, found), True, (seed, slip))
                    self.assertIn(slip, refonepile.slips_of_play(rules, found))
                    states = State(rules).played(found)
                    self.assertFalse(any(state.is_over for state in states[:-1]))
            near = refonepile.slips_within(rules, 5, 1500)
            if near is None:
                continue
            compared += 1
            many += len(near)
            short = {slip: len(play) for slip, play in plays.items() if len(play) <= 5}
            self.assertEqual(near, short, seed)
        self.assertGreater(compared, 200)
        self.assertGreater(many, 20)

    def test_any_plays(self):
        told = {True: 0, False: 0}
        for seed, rules in self.kinds_of_rules():
            numbers = Numbers(seed)
            for _ in range(3):
                state, moves = State(rules), []
                while len(moves) < 12 and state.moves() and not (moves and state.is_over):
                    moves.append(numbers.one_of(state.moves()))
                    state = state.after(moves[-1])
                for end in range(len(moves) + 1):
                    wanted = refonepile.slips_of_play(rules, moves[:end]) or set()
                    for slip in all_slips(rules):
                        self.assertIs(is_slip(rules, *slip, moves[:end]), slip in wanted, (seed, moves[:end]))
                        told[slip in wanted] += 1
        self.assertGreater(told[True], 20)


class ArgumentsTest(unittest.TestCase):
    def test_wrong_rules(self):
        for value in ODD + [Rules, Deed("a")]:
            for call in [slips, lambda one: slip_play(one, None, None, None),
                         lambda one: is_slip(one, None, None, None, None)]:
                with raises(self, BadRules, "part", value):
                    call(value)

    def test_wrong_arguments(self):
        rules = struck()
        for call in [slip_play, lambda *told: is_slip(*told, None)]:
            for value in odd_but("a") + ["c", ["a"], "A"]:
                with raises(self, NotThere, "word", value):
                    call(rules, value, "x", "y")
            for value in odd_but() + ["copies", "struck", ["copy"], b"copy"]:
                with raises(self, BadArgument, "value", value):
                    call(rules, "a", value, "y")
            for value in odd_but() + ["copy", "strike", "done", ["struck"], ("struck",)]:
                with raises(self, BadArgument, "value", value):
                    call(rules, "a", "copy", value)

    def test_values_that_are_no_such_plays(self):
        rules = struck()
        play = [lay(0, "a", 0), GONE, lay(1, "hit"), GONE]
        self.assertIs(is_slip(rules, "a", "call", "struck", play), True)
        wrong = ODD + [
            tuple(play), play[:-1], play[1:], play[:2], play + play, play + [lay(0, "a", 0)], [play], [lay(0, "a")],
            [lay(1, "a", 0)] + play[1:], [("lay", False, "a", None, ((0, None),))] + play[1:], play[:3] + [None],
            [("lay", 0, "a", None, ((False, None),))] + play[1:], [lay(0, "a", 0), GONE, GONE] + play,
            [lay(0, "a", 0), [], GONE], [("lay", 0, "a", None, [(0, None)])] + play[1:],
        ]
        for value in wrong:
            self.assertIs(is_slip(rules, "a", "call", "struck", value), False, value)
        for slip in all_slips(rules):
            self.assertIs(is_slip(rules, *slip, play), slip == ("a", "call", "struck"))

    def test_too_many_places(self):
        for rules in [too_many(), too_many_by_last("any")]:
            for word, kind, fail in all_slips(rules)[:4]:
                with raises(self, TooMany, "most", 2000):
                    slip_play(rules, word, kind, fail)
            with raises(self, TooMany, "most", 2000):
                slips(rules)
            with raises(self, NotThere, "word", "b"):
                slip_play(rules, "b", "call", "struck")
        # It goes through no places.
        deeds = too_many().deeds[1:] + [Deed("a", opens=True, steps=[("strike",)])]
        rules = too_many().changed(deeds=deeds, wakings=[Waking("laid", "x", "a", may=True)])
        with self.assertRaises(TooMany):
            slips(rules)
        play = [lay(0, "a"), ("lay", 1, "x", "m", ((0, None),)), GONE]
        self.assertIs(is_slip(rules, "x", "call", "struck", play), True)
        self.assertIs(is_slip(rules, "x", "copy", "struck", play), False)
        self.assertIs(is_slip(rules, "x", "call", "struck", play[:2]), False)

    def test_more_places_with_the_entry_watched(self):
        # Just below 2000 places: those with a watched entry do not count.
        deeds = [Deed(word, opens=True, answers=["a", "b"], goals=["m", "n"], steps=[("more", "goal"), (act,)])
                 for word, act in [("a", "strike"), ("b", "again")]]
        rules = Rules({"m": 3, "n": 3}, deeds)
        self.assertEqual(slips(rules), [("a", "copy", "struck"), ("b", "copy", "struck")])

    def test_more_than_400_entries(self):
        deeds = [Deed("a", opens=True, answers=["a"]), Deed("b", steps=[("strike",)])]
        rules = Rules({}, deeds, [Waking("laid", "a", "b", may=True)])
        for high, wanted in [(398, True), (399, False)]:
            play = [lay(0, "a")] + [lay(1, "a")] * (high - 1) + [lay(1, "a", 0), GONE]
            self.assertIs(is_slip(rules, "a", "call", "struck", play), wanted)

    def test_by_name(self):
        rules = struck()
        self.assertEqual(slips(rules=rules), slips(rules))
        play = slip_play(fail="struck", kind="call", word="a", rules=rules)
        self.assertEqual(play, slip_play(rules, "a", "call", "struck"))
        self.assertIs(is_slip(value=play, fail="struck", kind="call", word="a", rules=rules), True)

    def test_caller_may_change_what_is_told(self):
        rules = struck()
        for _ in range(2):
            self.assertEqual(slips(rules), [("a", "call", "struck")])
            slips(rules).clear()
            self.assertEqual(len(slip_play(rules, "a", "call", "struck")), 4)
            slip_play(rules, "a", "call", "struck").clear()


if __name__ == "__main__":
    unittest.main()
