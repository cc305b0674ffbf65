"""Parts of rules, and rules and papers put side by side [16]."""

import itertools
import unittest

from answerpiles.errors import BadArgument, BadRules, TooMany
from answerpiles.falling import is_paper, paper_of
from answerpiles.joins import are_apart, endless_parts, joined_paper, only, parts_of, results_of_parts
from answerpiles.rings import Outlook
from answerpiles.rules import Deed, Rules, Waking

from helps import ODD, odd_but, raises
from somerules import made_rules
from test_given import two
from test_rings import striking

LETTERS = {"a": "p", "b": "q", "c": "r", "d": "s"}


def renamed(rules):
    """The rules with other words of deeds."""
    deeds = []
    for deed in rules.deeds:
        deeds.append(Deed(LETTERS[deed.word], opens=deed.opens, whose=deed.whose, asks=deed.asks,
                          answers=[LETTERS[word] for word in deed.answers], pays=deed.pays, card=deed.card,
                          goals=deed.goals, steps=deed.steps))
    wakings = [Waking(one.event, LETTERS[one.deed], LETTERS[one.call], by=one.by, may=one.may)
               for one in rules.wakings]
    return rules.changed(deeds=deeds, wakings=wakings)


def giving(mark="m", end=1, word="p", **more):
    return Rules({mark: end}, [Deed(word, opens=True, steps=[("more", mark)])], **more)


def pairs(seeds):
    """Rules of all kinds that are apart, two by two."""
    ones = [made_rules(seed, 2) for seed in seeds]
    others = [renamed(made_rules(seed + 500, 2)) for seed in seeds]
    for one, more in itertools.product(ones, others):
        if one.seats == more.seats and one.order == more.order and are_apart(one, more):
            yield one, more


def parts_by_words(rules):
    """The parts: words are of one if a pile can be of both, or one hangs on the other."""
    linked = {(deed.word, word) for deed in rules.deeds for word in deed.answers}
    linked |= {(waking.deed, waking.call) for waking in rules.wakings}
    near = {word: {word} for word in rules.words()}
    for _ in near:
        for one, other in linked:
            near[one] = near[other] = near[one] | near[other]
            for word in list(near[one]):
                near[word] = near[word] | near[one]
    return sorted({tuple(sorted(words)) for words in near.values()})


class ApartTest(unittest.TestCase):
    def test_apart(self):
        self.assertIs(are_apart(two(), giving()), False)
        self.assertIs(are_apart(two(), giving(end=2)), True)
        self.assertIs(are_apart(two(), giving("n")), True)
        self.assertIs(are_apart(giving(end=2), two()), True)
        self.assertIs(are_apart(two(), giving(end=2, word="a")), False)
        self.assertIs(are_apart(two(), two()), False)

    def test_what_cannot_be_joined(self):
        one = giving(word="a")
        for other in [giving(seats=3), giving(order="last"), giving(start={"m": 1}), giving(end=2),
                      Rules({"n": 3, "k": 3}, [Deed("p")]),
                      Rules({"k": 1, "l": 1, "n": 1}, [Deed("p")]),
                      Rules({}, [Deed(word) for word in "pqrstu"])]:
            self.assertIs(are_apart(one, other), False)
            self.assertIs(are_apart(other, one), False)
            with raises(self, BadArgument, "value", other):
                joined_paper(one, other, "paper", "more")
        rows = [Waking(event, "a", "a") for event in ["laid", "done", "struck"]]
        one = Rules({}, [Deed("a")], rows)
        self.assertIs(are_apart(one, Rules({}, [Deed("p")], [Waking("done", "p", "p")])), True)
        more = [Waking("done", "p", "p"), Waking("laid", "p", "p")]
        self.assertIs(are_apart(one, Rules({}, [Deed("p")], more)), False)
        self.assertIs(are_apart(giving(word="a", start={"m": 1}), giving(start={"m": 1})), True)

    def test_wrong_rules(self):
        for value in ODD + [Rules]:
            with raises(self, BadRules, "part", value):
                are_apart(value, "other")
            with raises(self, BadRules, "part", value):
                are_apart(two(), value)
            with raises(self, BadRules, "part", value):
                joined_paper(value, "other", "paper", "more")
            with raises(self, BadRules, "part", value):
                joined_paper(two(), value, "paper", "more")

    def test_by_name(self):
        one, other = giving(word="a"), giving("n")
        self.assertIs(are_apart(other=other, one=one), True)
        paper = paper_of(one, everywhere=True)
        more = paper_of(other, everywhere=True)
        found = joined_paper(more=more, paper=paper, other=other, one=one)
        self.assertEqual(found, joined_paper(one, other, paper, more))
        self.assertEqual(only(words=["a"], rules=one), one)


class JoinedPaperTest(unittest.TestCase):
    def test_all_counts_of_the_marks_that_a_rule_has_not(self):
        one, other = giving(word="a"), giving("n", 2)
        paper = paper_of(one, everywhere=True)
        more = paper_of(other, everywhere=True)
        found = joined_paper(one, other, paper, more)
        a, p = ("a", 0, None, False), ("p", 0, None, False)
        wanted = []
        for m, n in itertools.product(range(2), range(3)):
            wanted.append((((m, n), a, ()), 0, [((1, n), "stay", None)], [((1, n), "stay", None)]))
            end = ((m, min(n + 1, 2)), "stay", None)
            wanted.append((((m, n), p, ()), 0, [end], [end]))
        self.assertEqual(found, sorted(wanted, key=str))
        self.assertIs(is_paper(one | other, found, everywhere=True), True)
        self.assertEqual(joined_paper(other, one, more, paper), found)

    def test_common_marks_and_none(self):
        one, other = giving(word="a"), giving()
        found = joined_paper(one, other, paper_of(one, everywhere=True), paper_of(other, everywhere=True))
        self.assertEqual(len(found), 4)
        self.assertIs(is_paper(one | other, found, everywhere=True), True)
        bare, empty = Rules({}, [Deed("x", opens=True)]), Rules({}, [Deed("y")])
        found = joined_paper(bare, empty, paper_of(bare, everywhere=True), [])
        self.assertEqual(found, paper_of(bare | empty, everywhere=True))
        found = joined_paper(bare, one, paper_of(bare, everywhere=True), paper_of(one, everywhere=True))
        self.assertEqual([row[0][0] for row in found], [(0,), (0,), (1,), (1,)])

    def test_marks_in_between(self):
        one = Rules({"k": 1, "n": 1}, [Deed("a", opens=True, steps=[("more", "n")])])
        other = Rules({"m": 1}, [Deed("p", opens=True, pays={"m": 1}, steps=[("more", "m")])])
        found = joined_paper(one, other, paper_of(one, everywhere=True), paper_of(other, everywhere=True))
        self.assertEqual(found, paper_of(one | other, everywhere=True))
        self.assertIn((((1, 1, 0), ("a", 0, None, False), ()), 0, [((1, 1, 1), "stay", None)],
                       [((1, 1, 1), "stay", None)]), found)

    def test_rules_of_all_kinds(self):
        joined = 0
        for one, other in pairs(range(70)):
            paper, more = paper_of(one, everywhere=True), paper_of(other, everywhere=True)
            if paper is None or more is None or len(paper) + len(more) > 120:
                continue
            joined += 1
            found = joined_paper(one, other, paper, more)
            self.assertIs(is_paper(one | other, found, everywhere=True), True)
            self.assertEqual(found, paper_of(one | other, everywhere=True))
            fill = len((one | other).tables())
            many = len(paper) * fill // len(one.tables()) + len(more) * fill // len(other.tables())
            self.assertEqual(len(found), many)
        self.assertGreater(joined, 30)

    def test_papers_of_any_author(self):
        one, other = giving(word="a"), giving("n")
        paper = [(place, number + 10 ** 40, ends * 2, calm[::-1])
                 for place, number, ends, calm in paper_of(one, everywhere=True)][::-1]
        more = paper_of(other, everywhere=True)
        # Ends beside those that are needed do no harm, and stay.
        more[0] = more[0][:2] + ([((0,), "stay", None)] + more[0][2], more[0][3])
        found = joined_paper(one, other, paper, more)
        self.assertIs(is_paper(one | other, found, everywhere=True), True)
        self.assertEqual(len(found), 8)
        self.assertEqual(sorted({row[1] for row in found}), [0, 10 ** 40])
        self.assertEqual(found[1][2], [((0, 0), "stay", None), ((0, 1), "stay", None)])
        for row in found:
            self.assertEqual(row[2], sorted(row[2], key=str))
            self.assertEqual(len(set(row[2])), len(row[2]))

    def test_rows_left_out(self):
        one, other = giving(word="a"), giving("n")
        paper, more = paper_of(one, everywhere=True), paper_of(other, everywhere=True)
        for value in odd_but([]) + [paper[1:], paper + paper[:1], tuple(paper), more, [], paper_of(one)]:
            with raises(self, BadArgument, "value", value):
                joined_paper(one, other, value, "more")
        for value in odd_but([]) + [more[1:], more + more[:1], tuple(more), paper, [], paper_of(other)]:
            with raises(self, BadArgument, "value", value):
                joined_paper(one, other, paper, value)
        with raises(self, BadArgument, "value", one):
            joined_paper(one, one, "paper", "more")

    def test_caller_may_change_what_was_given_and_told(self):
        one, other = giving(word="a"), giving("n")
        paper, more = paper_of(one, everywhere=True), paper_of(other, everywhere=True)
        found = joined_paper(one, other, paper, more)
        for row in found:
            row[2].clear()
            row[3].append("x")
        self.assertEqual(paper, paper_of(one, everywhere=True))
        again = joined_paper(one, other, paper, more)
        for row in paper + more:
            row[2].clear()
        self.assertIs(is_paper(one | other, again, everywhere=True), True)


class PartsTest(unittest.TestCase):
    def five(self):
        deeds = [Deed("e", opens=True), Deed("b", answers=["d"]), Deed("d", opens=True), Deed("a", opens=True),
                 Deed("c"), Deed("f", opens=True)]
        wakings = [Waking("laid", "a", "c"), Waking("struck", "f", "f")]
        return Rules({"m": 1}, deeds, wakings, seats=3, order="last", start={"m": 1})

    def test_parts(self):
        self.assertEqual(parts_of(self.five()), [["a", "c"], ["b", "d"], ["e"], ["f"]])
        self.assertEqual(parts_of(two()), [["a", "hit"]])
        self.assertEqual(parts_of(Rules({}, [Deed("b"), Deed("a"), Deed("ab")])), [["a"], ["ab"], ["b"]])
        chain = Rules({}, [Deed("a"), Deed("d", answers=["a"]), Deed("b", answers=["c"]), Deed("c")],
                      [Waking("instead", "d", "b")])
        self.assertEqual(parts_of(chain), [["a", "b", "c", "d"]])

    def test_a_deed_is_of_the_part_of_what_it_answers(self):
        self.assertEqual(parts_of(Rules({}, [Deed("a"), Deed("b", answers=["a"])])), [["a", "b"]])
        self.assertEqual(parts_of(Rules({}, [Deed("a"), Deed("b"), Deed("c", answers=["a", "b"])])),
                         [["a", "b", "c"]])

    def test_parts_of_rules_of_all_kinds(self):
        many = 0
        for seed in range(300):
            rules = made_rules(seed, 4)
            parts = parts_of(rules)
            many += len(parts) > 1
            self.assertEqual(parts, [list(part) for part in parts_by_words(rules)])
            for part in parts:
                self.assertEqual(parts_of(only(rules, part)), [part])
        self.assertGreater(many, 20)

    def test_only(self):
        rules = self.five()
        found = only(rules, ("c", "e", "a"))
        self.assertEqual(found, Rules({"m": 1}, [rules["e"], rules["a"], rules["c"]], rules.wakings[:1],
                                      seats=3, order="last", start={"m": 1}))
        self.assertEqual(only(rules, ["f"]).wakings, rules.wakings[1:])
        self.assertEqual(only(rules, rules.words()), rules)
        self.assertEqual(only(rules, tuple(rules.words()[::-1])), rules)
        for words in itertools.permutations("bde"):
            self.assertEqual([deed.word for deed in only(rules, list(words)).deeds], ["e", "b", "d"])

    def test_wrong_words(self):
        rules = self.five()
        wrong = [["a"], ["c"], ["b", "e"], ["a", "c", "b"], ["e", "e"], ["a", "c", "c"], ["e", "g"], "e",
                 {"e": 1}, {"e"}, [["e"]], ["e", None], ["e", 0], [], (), ["m"], [("e",)], iter(["e"])]
        for value in ODD + wrong:
            with raises(self, BadArgument, "value", value):
                only(rules, value)

    def test_wrong_rules(self):
        for value in ODD + [Rules]:
            for call in [parts_of, endless_parts, results_of_parts, lambda one: only(one, "x")]:
                with raises(self, BadRules, "part", value):
                    call(value)

    def test_results_of_parts(self):
        rules = Rules({"m": 1}, [Deed("b", opens=True, steps=[("more", "m")]), Deed("a"),
                                 Deed("c", opens=True), Deed("d", answers=["c"], steps=[("more", "m")])])
        found = results_of_parts(rules)
        self.assertEqual(found, {"a": [], "b": [(1,)], "c": [(0,), (1,)]})
        self.assertEqual(list(found), ["a", "b", "c"])

    def test_results_of_all_parts(self):
        compared = 0
        for seed in range(120):
            rules = made_rules(seed, 4)
            parts = parts_of(rules)
            found = results_of_parts(rules)
            self.assertEqual(list(found), [part[0] for part in parts])
            for part in parts:
                self.assertEqual(found[part[0]], Outlook(only(rules, part)).results())
            whole = Outlook(rules)
            self.assertEqual(whole.results(), sorted(set(sum(found.values(), []))))
            self.assertEqual(endless_parts(rules) == [], whole.ring() is None)
            endless = [part for part in parts if Outlook(only(rules, part)).ring() is not None]
            self.assertEqual(endless_parts(rules), endless)
            compared += len(parts) > 1
        self.assertGreater(compared, 10)

    def test_endless_parts(self):
        ring = striking(False)
        self.assertIsNotNone(Outlook(ring).ring())
        self.assertEqual(endless_parts(ring), [ring.words()])
        both = ring | Rules({}, [Deed("aa", opens=True, card=False)], seats=ring.seats, order=ring.order)
        self.assertEqual(endless_parts(both), [ring.words()])
        self.assertEqual(endless_parts(two()), [])
        # What cannot be opened has no ring from the start.
        calm = Rules({}, [Deed("a", opens=True), Deed("b")], [Waking("done", "b", "b")])
        self.assertEqual(endless_parts(calm), [])
        more = Rules({}, [Deed("b", opens=True), Deed("ab", opens=True), Deed("a", opens=True)],
                     [Waking("done", word, word) for word in ["b", "ab", "a"]])
        self.assertEqual(endless_parts(more), [["a"], ["ab"], ["b"]])

    def test_too_many_places(self):
        deeds = [Deed(word, opens=True, answers=["a", "b", "c"], goals=["m", "n"],
                      steps=[("more", "goal")]) for word in "abc"]
        calls = [Waking("laid", word, call, by=by, may=True) for word, call, by in
                 [("a", "a", "own"), ("a", "b", "own"), ("a", "c", "next"), ("b", "a", "next")]]
        rules = Rules({"m": 3, "n": 3}, deeds, calls, seats=3, order="any")
        with raises(self, TooMany, "most", 2000):
            Outlook(rules)
        for call in [endless_parts, results_of_parts]:
            with raises(self, TooMany, "most", 2000):
                call(rules)

    def test_caller_may_change_what_was_given_and_told(self):
        rules = self.five()
        words = ["a", "c"]
        found = only(rules, words)
        words.clear()
        self.assertEqual(found.words(), ["a", "c"])
        for _ in range(2):
            self.assertEqual(parts_of(rules), [["a", "c"], ["b", "d"], ["e"], ["f"]])
            for part in parts_of(rules):
                part.clear()
            parts_of(rules).clear()
            results_of_parts(rules)["e"].clear()
            endless_parts(rules).append("x")
        self.assertEqual(results_of_parts(rules)["e"], [(1,)])
        self.assertEqual(endless_parts(rules), [])
