"""What is never laid, and the parts of rules that make no odds [19]."""

import unittest

import reference

from answerpiles.compared import alike, endings, is_parting, parting
from answerpiles.errors import BadArgument, BadNumber, BadRules, TooMany
from answerpiles.idle import bare, needless, odds, unlaid, unwoken, vain_mays, without
from answerpiles.rules import Deed, Rules, Waking

from helpbig import few, too_many, too_many_by_last
from helps import ODD, odd_but, raises
from somerules import lively_rules, made_rules, ordered_rules

GONE = ("done", "steps", (), ())


def kinds_of_rules():
    for seed in range(90):
        yield seed, made_rules(seed, 4)
        yield seed, lively_rules(seed)
        yield seed, ordered_rules(seed)


def all_parts(rules):
    deeds = [("deed", word) for word in rules.words()]
    return deeds + [("waking", number) for number in range(len(rules.wakings))]


def whole():
    deeds = [Deed("b", opens=True, answers=["a", "b"], whose="own", asks={"m": 1}, pays={"n": 1}, card=False,
                  goals=["m", "n"], steps=[("more", "goal"), ("turn",)]),
             Deed("a", opens=True, answers=["c", "b", "a"]), Deed("c")]
    wakings = [Waking("done", "a", "c"), Waking("laid", "b", "b", by="next", may=True), Waking("struck", "c", "b"),
               Waking("instead", "b", "a", may=True)]
    return Rules({"m": 2, "n": 1}, deeds, wakings, seats=3, order="any", start={"m": 1})


class NeverLaidTest(unittest.TestCase):
    def test_unlaid(self):
        deeds = [Deed("o", opens=True), Deed("x", answers=["o"], asks={"m": 1}), Deed("called"),
                 Deed("above", answers=["called"]), Deed("far", answers=["x"]), Deed("b", opens=True, asks={"m": 1})]
        rules = Rules({"m": 1}, deeds, [Waking("done", "o", "called")])
        self.assertEqual(unlaid(rules), ["b", "called", "far", "x"])
        self.assertEqual(unlaid(rules, everywhere=True), ["called"])
        self.assertEqual(unlaid(rules.changed(start={"m": 1})), ["called"])
        self.assertEqual(unlaid(Rules({}, [Deed("b"), Deed("a")])), ["a", "b"])
        self.assertEqual(unlaid(Rules({}, [Deed("a", opens=True)])), [])

    def test_unwoken(self):
        deeds = [Deed("a", opens=True), Deed("b", pays={"m": 1}), Deed("c", answers=["a"], steps=[("strike",)])]
        wakings = [Waking("done", "a", "b"), Waking("done", "b", "a"), Waking("struck", "a", "a", may=True),
                   Waking("laid", "b", "a")]
        rules = Rules({"m": 1}, deeds, wakings)
        self.assertEqual(unwoken(rules), [0, 1, 3])
        # Calls do not wake laid, so the last waking is never woken.
        self.assertEqual(unwoken(rules, everywhere=True), [3])
        self.assertEqual(unwoken(rules.changed(start={"m": 1})), [3])
        self.assertEqual(unwoken(Rules({}, deeds[:1])), [])

    def test_calls_of_each_event(self):
        for event in ["laid", "done", "struck", "instead"]:
            deeds = [Deed("a", opens=True), Deed("hit", answers=["a"], steps=[("strike",)]), Deed("c")]
            rules = Rules({}, deeds, [Waking(event, "a", "c"), Waking(event, "c", "c", may=True)])
            self.assertEqual(unwoken(rules), [1] if event in ("laid", "struck") else [])
            self.assertEqual(unlaid(rules), ["c"])

    def test_as_plays_tell(self):
        compared = 0
        for seed, rules in kinds_of_rules():
            words, numbers = set(), set()
            states, known = {(rules.start, ())}, set()
            for _ in range(4):
                behind = set()
                for table, pile in states:
                    for step in reference.steps(rules, table, pile):
                        calls = step.move[-1] + (step.move[2] if step.move[0] == "done" else ())
                        numbers |= {number for number, _ in calls}
                        words |= {step.move[2]} if step.move[0] == "lay" else set()
                        if step.pile and len(known) < 600:
                            behind.add((step.table, step.pile))
                known |= behind
                states = behind
            for word in unlaid(rules):
                self.assertNotIn(word, words)
            for number in unwoken(rules):
                self.assertNotIn(number, numbers)
            compared += set(unlaid(rules)) | words == set(rules.words())
        self.assertGreater(compared, 200)

    def test_everywhere_and_from_the_start(self):
        told = 0
        for seed, rules in kinds_of_rules():
            self.assertTrue(set(unlaid(rules, everywhere=True)) <= set(unlaid(rules)))
            self.assertTrue(set(unwoken(rules, everywhere=True)) <= set(unwoken(rules)))
            told += unlaid(rules, everywhere=True) != unlaid(rules)
            for call, among in [(unlaid, rules.words()), (unwoken, list(range(len(rules.wakings))))]:
                union = [call(rules.changed(start=dict(zip(rules.marks, table)))) for table in rules.tables()]
                wanted = [one for one in among if all(one in found for found in union)]
                self.assertEqual(call(rules, everywhere=True), wanted)
        self.assertGreater(told, 10)


class WithoutTest(unittest.TestCase):
    def test_a_waking(self):
        rules = whole()
        for number in range(4):
            left = rules.wakings[:number] + rules.wakings[number + 1:]
            self.assertEqual(without(rules, ("waking", number)), rules.changed(wakings=left))

    def test_a_deed(self):
        rules = whole()
        found = without(rules, ("deed", "b"))
        self.assertEqual(found, Rules({"m": 2, "n": 1}, [Deed("a", opens=True, answers=["a", "c"]), Deed("c")],
                                      [Waking("done", "a", "c")], seats=3, order="any", start={"m": 1}))
        found = without(rules, ("deed", "c"))
        deeds = [rules["b"], Deed("a", opens=True, answers=["a", "b"])]
        self.assertEqual(found, rules.changed(deeds=deeds, wakings=[rules.wakings[1], rules.wakings[3]]))
        found = without(rules, ("deed", "a"))
        deeds = [Deed("b", opens=True, answers=["b"], whose="own", asks={"m": 1}, pays={"n": 1}, card=False,
                      goals=["m", "n"], steps=[("more", "goal"), ("turn",)]), Deed("c")]
        self.assertEqual(found, rules.changed(deeds=deeds, wakings=rules.wakings[1:3]))

    def test_the_only_deed(self):
        rules = Rules({}, [Deed("a", opens=True, answers=["a"])], [Waking("done", "a", "a")])
        self.assertIsNone(without(rules, ("deed", "a")))
        self.assertEqual(without(rules, ("waking", 0)), Rules({}, rules.deeds))
        self.assertEqual(needless(Rules({}, [Deed("a")])), [])
        self.assertEqual(bare(Rules({}, [Deed("a")])), Rules({}, [Deed("a")]))

    def test_wrong_parts(self):
        rules = whole()
        wrong = odd_but() + [
            ("deed", "d"), ("deed", "m"), ("deed", 0), ("deed", ["a"]), ("deed",), ("deed", "a", None), ["deed", "a"],
            ("waking", 4), ("waking", -1), ("waking", True), ("waking", False), ("waking", 0.0), ("waking", "0"),
            ("waking", None), ("mark", "m"), ("Deed", "a"), (["deed"], "a"), "deed a", ("waking", 10 ** 30),
        ]
        for value in wrong:
            with raises(self, BadArgument, "value", value):
                without(rules, value)


class NeedlessTest(unittest.TestCase):
    def test_examples(self):
        deeds = [Deed("a", opens=True), Deed("b", answers=["a"], steps=[("more", "m")]),
                 Deed("ab", answers=["a", "b"]), Deed("c", opens=True, asks={"m": 1})]
        rules = Rules({"m": 1}, deeds, [Waking("done", "b", "ab"), Waking("done", "a", "b", may=True)])
        self.assertEqual(needless(rules), [("deed", "ab"), ("waking", 0), ("waking", 1)])
        self.assertEqual(bare(rules), Rules({"m": 1}, [deeds[0], deeds[1], deeds[3]]))

    def test_needed_once_another_one_is_out(self):
        # Either of the two leads to the same tables: one is needless as long as the other is there.
        deeds = [Deed("a", opens=True), Deed("c", answers=["a"], steps=[("more", "m")]),
                 Deed("b", answers=["a"], steps=[("more", "m")])]
        rules = Rules({"m": 1}, deeds)
        self.assertEqual(needless(rules), [("deed", "b"), ("deed", "c")])
        self.assertEqual(bare(rules), Rules({"m": 1}, deeds[:2]))
        self.assertEqual(needless(bare(rules)), [])

    def test_the_wakings_of_a_deed_go_with_it(self):
        deeds = [Deed("a", opens=True, steps=[("more", "m")]), Deed("b")]
        rules = Rules({"m": 1}, deeds, [Waking("done", "a", "b"), Waking("done", "b", "b", may=True),
                                        Waking("struck", "b", "a")])
        self.assertEqual(needless(rules), [("deed", "b"), ("waking", 0), ("waking", 1), ("waking", 2)])
        self.assertEqual(bare(rules), Rules({"m": 1}, deeds[:1]))

    def test_openings_are_needed_even_with_no_end(self):
        # Rules without the deed would be alike, but have fewer openings.
        deeds = [Deed("a", opens=True), Deed("b", opens=True)]
        rules = Rules({}, deeds, [Waking("instead", "b", "b")])
        self.assertIs(alike(rules, without(rules, ("deed", "b"))), True)
        self.assertEqual(needless(rules), [])
        self.assertEqual(bare(rules), rules)

    def test_openings_from_all_tables(self):
        # From the start the deed is laid by no seat, but it opens from another table.
        rules = Rules({"m": 1}, [Deed("a", opens=True), Deed("b", opens=True, asks={"m": 1})])
        self.assertEqual(unlaid(rules), ["b"])
        self.assertEqual(needless(rules), [])
        self.assertEqual(needless(Rules({"m": 1}, [Deed("a", opens=True), Deed("b", answers=["b"])])), [("deed", "b")])

    def test_nothing_opens(self):
        rules = Rules({}, [Deed("b"), Deed("a"), Deed("c")], [Waking("done", "b", "c")])
        self.assertEqual(needless(rules), [("deed", "a"), ("deed", "b"), ("deed", "c"), ("waking", 0)])
        # The words are left out in their order, but the last deed cannot be.
        self.assertEqual(bare(rules), Rules({}, [Deed("c")]))

    def test_what_is_told_goes_together(self):
        many = 0
        for seed, rules in kinds_of_rules():
            told = endings(rules)
            rests = [(part, without(rules, part)) for part in all_parts(rules)]
            wanted = [part for part, rest in rests if rest is not None and endings(rest) == told]
            self.assertEqual(needless(rules), wanted, seed)
            many += len(wanted)
            left = rules
            while needless(left):
                left = without(left, needless(left)[0])
            found = bare(rules)
            self.assertEqual(found, left, seed)
            self.assertEqual(needless(found), [])
            self.assertEqual(endings(found), told)
            self.assertIs(alike(rules, found), True)
        self.assertGreater(many, 100)


class OddsTest(unittest.TestCase):
    def test_a_waking_that_may(self):
        deeds = [Deed("a", opens=True), Deed("b", steps=[("more", "m")]), Deed("c")]
        wakings = [Waking("done", "a", "b", may=True), Waking("done", "a", "c", may=True), Waking("done", "b", "c")]
        rules = Rules({"m": 1}, deeds, wakings)
        found = odds(rules, 0)
        self.assertEqual((found[0], found[1], len(found[2])), (0, (0,), 4))
        self.assertIs(is_parting(rules, without(rules, ("waking", 0)), found), True)
        self.assertIsNone(odds(rules, 1))
        # One that must makes no odds, either, but it is no vain may.
        self.assertIsNone(odds(rules, 2))
        self.assertEqual(vain_mays(rules), [1])

    def test_a_waking_that_must(self):
        deeds = [Deed("a", opens=True), Deed("b", steps=[("more", "m")])]
        rules = Rules({"m": 1}, deeds, [Waking("done", "a", "b")])
        found = odds(rules, 0)
        self.assertIn(found, [
            (0, (0,), [("lay", 0, "a", None, ()), ("done", "steps", (), ((0, None),)), GONE]),
            (1, (0,), [("lay", 0, "a", None, ()), GONE]),
        ])
        self.assertEqual(len(found[2]), 2)
        self.assertEqual(vain_mays(rules), [])

    def test_what_is_told_goes_together(self):
        vain = 0
        for seed, rules in kinds_of_rules():
            mays = []
            for number, waking in enumerate(rules.wakings):
                found = odds(rules, number)
                rest = without(rules, ("waking", number))
                wanted = parting(rules, rest)
                self.assertEqual(found is None, wanted is None)
                self.assertEqual(found is None, alike(rules, rest))
                if found is not None:
                    self.assertEqual(len(found[2]), len(wanted[2]))
                    self.assertIs(is_parting(rules, rest, found), True)
                elif waking.may:
                    mays.append(number)
            self.assertEqual(vain_mays(rules), mays)
            vain += len(mays)
        self.assertGreater(vain, 20)

    def test_wrong_numbers(self):
        rules = whole()
        for value in odd_but(0, 1, 2, 3) + [4, -1, "0", [0]]:
            with raises(self, BadNumber, "number", value):
                odds(rules, value)
        for value in odd_but():
            with raises(self, BadNumber, "number", value):
                odds(Rules({}, [Deed("a")]), value)


class ArgumentsTest(unittest.TestCase):
    def test_wrong_rules(self):
        calls = [unlaid, unwoken, needless, bare, vain_mays, lambda one: without(one, None),
                 lambda one: odds(one, None), lambda one: unlaid(one, everywhere=True),
                 lambda one: unwoken(one, everywhere=True)]
        for value in ODD + [Rules, Deed("a")]:
            for call in calls:
                with raises(self, BadRules, "part", value):
                    call(value)

    def test_everywhere_by_name_only(self):
        for call in [unlaid, unwoken]:
            with self.assertRaises(TypeError):
                call(whole(), True)
            self.assertEqual(call(everywhere=False, rules=whole()), call(whole()))
        self.assertEqual(without(part=("deed", "a"), rules=whole()), without(whole(), ("deed", "a")))
        self.assertEqual(odds(number=0, rules=few()), odds(few(), 0))
        self.assertEqual([needless(rules=few()), vain_mays(rules=few())], [needless(few()), []])
        self.assertEqual(bare(rules=few()), bare(few()))

    def test_too_many_places(self):
        for rules in [too_many(), too_many_by_last("last")]:
            for call in [unlaid, unwoken, needless, bare]:
                with raises(self, TooMany, "most", 2000):
                    call(rules)
        rules = too_many_by_last("last")
        with raises(self, TooMany, "most", 2000):
            odds(rules, 0)
        may = rules.changed(wakings=[rules.wakings[0], Waking("done", "a", "down", may=True)])
        with raises(self, TooMany, "most", 2000):
            vain_mays(may)
        with raises(self, BadNumber, "number", 2):
            odds(rules, 2)
        # Nothing is gone through where a part is left out.
        self.assertEqual(len(without(rules, ("deed", "a"))), 5)

    def test_too_many_without_a_part_alone(self):
        # The call that must be laid strikes what would be answered in very many ways.
        big = too_many()
        deeds = big.deeds + [Deed("s", steps=[("strike",)])]
        rules = big.changed(deeds=deeds, wakings=[Waking("laid", "a", "s")])
        self.assertEqual(unlaid(rules, everywhere=True), ["s", "x", "y", "z"])
        for call in [needless, lambda one: odds(one, 0)]:
            with raises(self, TooMany, "most", 2000):
                call(rules)

    def test_caller_may_change_what_is_told(self):
        rules = whole()
        for call in [unlaid, unwoken, needless, vain_mays]:
            wanted = list(call(rules))
            call(rules).append("x")
            self.assertEqual(call(rules), wanted)
        without(rules, ("deed", "a")).deeds.clear()
        bare(rules).wakings.clear()
        self.assertEqual(rules, whole())


if __name__ == "__main__":
    unittest.main()
