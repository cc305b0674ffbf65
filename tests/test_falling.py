"""Papers that each pile ends [11]."""

import unittest

from answerpiles.errors import BadRules, TooMany
from answerpiles.falling import is_paper, paper_of, pays_down
from answerpiles.rings import Outlook
from answerpiles.rules import Deed, Rules, Waking

from helps import ODD, odd_but, raises
from test_rings import high, low, striking


def pair():
    """A deed that gives, answered by a card that strikes and by one without that pays."""
    deeds = [Deed("a", opens=True, steps=[("more", "m")]),
             Deed("hit", answers=["a", "b"], steps=[("strike",)]),
             Deed("b", answers=["a"], card=False, pays={"n": 1})]
    return Rules({"m": 1, "n": 1}, deeds, [Waking("struck", "a", "b")], start={"n": 1})


def changed(paper, place, number=None, ends=None, calm=None):
    """The paper with another row for a place."""
    found = []
    for row in paper:
        if row[0] == place:
            row = (place, row[1] if number is None else number, row[2] if ends is None else ends,
                   row[3] if calm is None else calm)
        found.append(row)
    return found


class PaperTest(unittest.TestCase):
    def test_rows(self):
        for everywhere in [False, True]:
            rules = pair()
            outlook = Outlook(rules, everywhere=everywhere)
            paper = paper_of(rules, everywhere=everywhere)
            self.assertEqual([row[0] for row in paper], outlook.places())
            self.assertEqual(paper, sorted(paper, key=str))
            for place, number, ends, calm in paper:
                self.assertIsInstance(number, int)
                self.assertEqual((ends, calm), (outlook.ends(place), outlook.calm_ends(place)))
            self.assertIs(is_paper(rules, paper, everywhere=everywhere), True)
        self.assertGreater(len(paper_of(pair(), everywhere=True)), len(paper_of(pair())))

    def test_everywhere_needs_more_rows(self):
        self.assertIs(is_paper(pair(), paper_of(pair(), everywhere=True)), True)
        self.assertIs(is_paper(pair(), paper_of(pair()), everywhere=True), False)
        self.assertIs(is_paper(pair(), paper_of(pair()), everywhere=False), True)

    def test_none_with_a_ring(self):
        self.assertIsNone(paper_of(striking(False)))
        self.assertIsNotNone(paper_of(striking(True)))
        self.assertIsNone(paper_of(Rules({}, [Deed("a", opens=True)], [Waking("done", "a", "a")])))

    def test_a_ring_that_is_not_reached_from_the_start(self):
        rules = Rules({"m": 1}, [Deed("a", opens=True, asks={"m": 1})], [Waking("done", "a", "a")])
        self.assertEqual(paper_of(rules), [])
        self.assertIsNone(paper_of(rules, everywhere=True))
        self.assertIs(is_paper(rules, []), True)
        self.assertIs(is_paper(rules, [], everywhere=True), False)

    def test_wrong_rules(self):
        for value in ODD:
            for call in [paper_of, pays_down, lambda rules: is_paper(rules, None),
                         lambda rules: paper_of(rules, everywhere=True)]:
                with raises(self, BadRules, "part", value):
                    call(value)

    def test_too_many(self):
        deeds = [Deed("a", opens=True, answers=["a", "b"], goals=["m", "n"]),
                 Deed("b", goals=["k", "m"]), Deed("c", goals=["k", "n"])]
        wakings = [Waking("laid", "a", "b"), Waking("laid", "a", "c"),
                   Waking("laid", "a", "b", by="next"), Waking("laid", "a", "c", by="next")]
        rules = Rules({"k": 1, "m": 1, "n": 3}, deeds, wakings, seats=3, order="any")
        with raises(self, TooMany, "most", 2000):
            paper_of(rules)
        self.assertIs(is_paper(rules, []), False)

    def test_caller_may_change_what_was_told(self):
        rules = pair()
        paper = paper_of(rules)
        same = paper_of(rules)
        for row in same:
            row[2].clear()
            row[3].append(None)
        same.clear()
        self.assertEqual(paper_of(rules), paper)


class JudgedTest(unittest.TestCase):
    def setUp(self):
        self.rules = pair()
        self.paper = paper_of(self.rules)
        self.opening = ((0, 1), low("a"), ())

    def check(self, wanted, paper):
        self.assertIs(is_paper(self.rules, paper), wanted)

    def test_each_row_is_needed(self):
        for row in self.paper:
            self.check(False, [other for other in self.paper if other != row])

    def test_rows_in_another_order(self):
        self.check(True, self.paper[::-1])
        self.check(True, self.paper[5:] + self.paper[:5])

    def test_other_numbers(self):
        self.check(True, [(row[0], 7 * row[1] + 10 ** 30, row[2], row[3]) for row in self.paper])
        self.check(False, [(row[0], 0, row[2], row[3]) for row in self.paper])
        self.check(False, [(row[0], 1000 - row[1], row[2], row[3]) for row in self.paper])

    def test_a_number_made_equal(self):
        answered = ((0, 0), low("a"), (high("b"),))
        over = ((0, 0), high("b"), ())
        numbers = {row[0]: row[1] for row in self.paper}
        # Beneath what lies above, and behind a calm move, numbers fall.
        self.check(False, changed(self.paper, answered, numbers[over]))
        self.check(False, changed(self.paper, self.opening, numbers[answered]))
        self.check(True, changed(self.paper, self.opening, 99))
        # Behind an answer with a card they need not.
        struck = ((0, 1), low("a"), (high("hit"),))
        self.check(True, changed(self.paper, struck, 99))

    def test_an_end_left_out(self):
        for place, number, ends, calm in self.paper:
            for end in ends:
                less = [other for other in ends if other != end]
                self.check(False, changed(self.paper, place, ends=less))
            for end in calm:
                less = [other for other in calm if other != end]
                self.check(False, changed(self.paper, place, calm=less))

    def test_an_end_put_among_the_calm_ones(self):
        for place, number, ends, calm in self.paper:
            for end in ends:
                if end not in calm and place == self.opening:
                    self.check(True, changed(self.paper, place, calm=calm + [end]))
        # Above an entry a further calm end has to be gone on from.
        over = ((0, 0), high("b"), ())
        more = [((0, 1), "stay", None)]
        self.check(False, changed(self.paper, over, calm=more + [((0, 0), "stay", None)]))

    def test_ends_beside_those_that_are_needed(self):
        more = ((0, 0), "strike", ("hit", 1))
        row = [row for row in self.paper if row[0] == self.opening][0]
        self.assertNotIn(more, row[2])
        self.check(True, changed(self.paper, self.opening, ends=row[2] + [more]))
        self.check(True, changed(self.paper, self.opening, ends=row[2] + row[2][:1]))
        self.check(True, changed(self.paper, self.opening, calm=row[3] + [more]))
        # The end of what lies above is gone on from, also by a deed that was not there.
        over = ((0, 0), high("b"), ())
        answered = ((0, 0), low("a"), (high("b"),))
        row = [row for row in self.paper if row[0] == over][0]
        strange = changed(self.paper, over, ends=row[2] + [((1, 1), "strike", ("hit", 0))])
        self.assertIn(answered, [row[0] for row in strange])
        self.check(False, strange)

    def test_rows_beside_those_that_are_needed(self):
        more = ((1, 0), high("hit", 1), ())
        self.assertNotIn(more, [row[0] for row in self.paper])
        ends = [((1, 0), "strike", ("hit", 1))]
        self.check(True, self.paper + [(more, 0, ends, ends)])
        self.check(False, self.paper + [(more, 0, [], [])])
        self.check(False, self.paper + [(more, 0, ends, [])])
        # All rows are to be right, also those of places that are not reached.
        beneath = ((1, 0), low("a", 1), (high("hit", 1),))
        self.check(False, self.paper + [(more, 0, ends, ends), (beneath, 9, [], [])])

    def test_no_place_twice(self):
        for row in self.paper:
            self.check(False, self.paper + [row])
            self.check(False, self.paper + [(row[0], row[1] + 1, row[2], row[3])])

    def test_any_value(self):
        for value in ODD + [tuple(self.paper), iter(self.paper), {0: self.paper}]:
            self.check(False, value)
        place, number, ends, calm = [row for row in self.paper if row[0] == self.opening][0]
        rest = [row for row in self.paper if row[0] != self.opening]
        self.check(True, rest + [(place, number, ends, calm)])
        wrong = odd_but() + [
            [place, number, ends, calm], (place, number, ends), (place, number, ends, calm, 0),
            (place, number, tuple(ends), calm), (place, number, ends, tuple(calm)),
            (place, True, ends, calm), (place, False, ends, calm), (place, -1, ends, calm),
            (place, float(number), ends, calm), (place, None, ends, calm),
            (list(place), number, ends, calm), (place[:2], number, ends, calm),
            (place + ((),), number, ends, calm), (((0, True), low("a"), ()), number, ends, calm),
            (((0, 1), ("a", False, None, False), ()), number, ends, calm),
            (((0, 1), ("a", 0, None, 0), ()), number, ends, calm),
            (((0, 1), low("a"), []), number, ends, calm), (None, number, ends, calm),
        ]
        for row in wrong:
            self.check(False, rest + [row])

    def test_numbers_are_integers_from_0_on(self):
        rules = Rules({}, [Deed("a", opens=True)])
        ends = [((), "stay", None)]
        for number in [0, 1, 10 ** 300]:
            self.assertIs(is_paper(rules, [(((), low("a"), ()), number, ends, ends)]), True)
        for number in [True, False, -1, 0.0, 1.0, None, "0", [0]]:
            self.assertIs(is_paper(rules, [(((), low("a"), ()), number, ends, ends)]), False)

    def test_forms_of_ends(self):
        place, number, ends, calm = [row for row in self.paper if row[0] == self.opening][0]
        rest = [row for row in self.paper if row[0] != self.opening]
        for end in [((0, 1), "stay", None), ((1, 1), "strike", ("hit", 1))]:
            self.check(True, rest + [(place, number, ends + [end], calm)])
        for end in [None, (), [(0, 1), "stay", None], ((0, 1), "stay"), ((0, 1), "stay", ()),
                    ((0, 1), "stay", ("a", 0)), ((0, True), "stay", None), ((0,), "stay", None),
                    ((0, 1), "strike", None), ((0, 1), "strike", ("a", 0)),
                    ((0, 1), "strike", ("hit", 2)), ((0, 1), "strike", ("hit", True)),
                    ((0, 1), "strike", ["hit", 0]), ((0, 1), "again", ("hit", 0)),
                    ((0, 1), "strike", ("hit",)), ((0, 1), "strike", ("hit", 0, 0)),
                    ((0, 1), ["stay"], None), ((0, 1), "done", None), ((0, 1), "stay", False),
                    ((0, 1), "strike", ("none", 0)), ((0, 1), "strike", (["hit"], 0)),
                    ((0, 1), "stay", None, None), ((0, 1), "turn", ("hit", 0)), [], {}]:
            self.check(False, rest + [(place, number, ends + [end], calm)])
            self.check(False, rest + [(place, number, ends, calm + [end])])

    def test_a_calm_end_that_is_not_among_the_ends_is_gone_on_from(self):
        # Above a is b, of which a calm end, that is no end of it, leads to a with m.
        rules = Rules({"m": 1}, [Deed("a", opens=True), Deed("b", card=False)],
                      [Waking("laid", "a", "b")])
        a, b = low("a"), high("b")
        stays = [((0,), "stay", None)]
        strange = [((1,), "stay", None)]
        rows = [(((0,), a, (b,)), 2, stays, stays), (((0,), b, ()), 0, stays, stays),
                (((0,), a, ()), 0, stays, stays)]
        self.assertIs(is_paper(rules, rows), True)
        rows[1] = (((0,), b, ()), 0, stays, stays + strange)
        self.assertIs(is_paper(rules, rows), False)
        rows.append((((1,), a, ()), 0, strange, strange))
        self.assertIs(is_paper(rules, rows), False)
        rows[0] = (((0,), a, (b,)), 2, stays, stays + strange)
        self.assertIs(is_paper(rules, rows), False)
        rows[0] = (((0,), a, (b,)), 2, stays + strange, stays)
        self.assertIs(is_paper(rules, rows), False)
        rows[0] = (((0,), a, (b,)), 2, stays + strange, stays + strange)
        self.assertIs(is_paper(rules, rows), True)
        rows[3] = (((1,), a, ()), 2, strange, strange)
        self.assertIs(is_paper(rules, rows), False)

    def test_elsewhere_ends_are_those_of_the_list_alone(self):
        # The answer has a calm end that is none of its ends; the row below needs not have it.
        rules = Rules({"m": 1}, [Deed("a", opens=True), Deed("c", answers=["a"])])
        a = low("a")
        stays = [((0,), "stay", None)]
        strange = [((1,), "stay", None)]
        rows = [(((0,), a, ()), 0, stays, stays)]
        for seat in [0, 1]:
            rows.append((((0,), high("c", seat), ()), 0, stays, stays))
            rows.append((((0,), a, (high("c", seat),)), 1, stays, stays + strange))
        self.assertIs(is_paper(rules, rows), True)


class ActsTest(unittest.TestCase):
    def test_papers_with_copies_turns_and_calls_in_the_place(self):
        deeds = [Deed("a", opens=True, goals=["m", "n"], steps=[("more", "goal")]),
                 Deed("x", answers=["a"], steps=[("again",)]),
                 Deed("t", answers=["a", "x"], steps=[("turn",)]),
                 Deed("b", pays={"m": 1}, card=False)]
        wakings = [Waking("instead", "a", "b", may=True), Waking("done", "x", "b", by="next"),
                   Waking("done", "t", "b"), Waking("laid", "t", "b", by="next")]
        for order in ["first", "last", "any"]:
            rules = Rules({"m": 1, "n": 1}, deeds, wakings, order=order)
            paper = paper_of(rules)
            self.assertIs(is_paper(rules, paper), True)
            for at, row in enumerate(paper):
                self.assertIs(is_paper(rules, paper[:at] + paper[at + 1:]), False)
                for end in row[2]:
                    less = [other for other in row[2] if other != end]
                    self.assertIs(is_paper(rules, changed(paper, row[0], ends=less)), False)
                for end in row[3]:
                    less = [other for other in row[3] if other != end]
                    self.assertIs(is_paper(rules, changed(paper, row[0], calm=less)), False)


class PaysDownTest(unittest.TestCase):
    def check(self, wanted, deeds, wakings=()):
        self.assertIs(pays_down(Rules({"m": 3, "n": 3}, deeds, wakings)), wanted)

    def test_what_needs_not_pay(self):
        self.check(True, [Deed("a", opens=True, answers=["a"], steps=[("more", "m")])])
        self.check(True, [Deed("a", opens=True, card=False)])

    def test_again(self):
        self.check(False, [Deed("a", opens=True, steps=[("again",)])])
        self.check(True, [Deed("a", opens=True, steps=[("strike",)]), Deed("t", steps=[("turn",)])])

    def test_called(self):
        waking = [Waking("done", "a", "b", may=True)]
        opens = Deed("a", opens=True)
        self.check(False, [opens, Deed("b")], waking)
        self.check(True, [opens, Deed("b", pays={"m": 1})], waking)
        self.check(False, [opens, Deed("b", asks={"m": 1})], waking)
        self.check(True, [opens, Deed("b")])
        self.check(False, [Deed("a", opens=True, steps=[("more", "m")]), Deed("b", pays={"m": 1})],
                   waking)
        self.check(True, [Deed("a", opens=True, steps=[("more", "m"), ("less", "n")]),
                          Deed("b", pays={"m": 1, "n": 1})], waking)

    def test_answers_without_a_card(self):
        self.check(False, [Deed("a", answers=["a"], card=False)])
        self.check(True, [Deed("a", answers=["a"], card=False, pays={"n": 2})])
        self.check(True, [Deed("a", answers=["a"])])

    def test_more_by_a_goal(self):
        pays = Deed("b", answers=["a"], card=False, pays={"m": 1})
        self.check(False, [Deed("a", goals=["m", "n"], steps=[("more", "goal")]), pays])
        self.check(True, [Deed("a", goals=["n"], steps=[("more", "goal")]), pays])
        self.check(True, [Deed("a", goals=["m"], steps=[("less", "goal")]), pays])
        self.check(False, [Deed("a"), Deed("b", answers=["a"], card=False, pays={"m": 1},
                                           steps=[("more", "m")])])
