"""What friends can force, papers of it, and who is passed over [14]."""

import unittest

import refasking

from answerpiles.asking import is_position
from answerpiles.errors import BadArgument, BadHands, BadMove, BadPlace, BadRules, BadTable, NotThere
from answerpiles.errors import TooMany
from answerpiles.force import Game
from answerpiles.piles import State
from answerpiles.rules import Deed, Rules, Waking

from helps import ODD, odd_but, raises
from somerules import Numbers, made_rules, some_hands
from test_asking import DONE, Table, cards, lay, passing, talk

READINGS = ["again", "once", "round"]


def duel():
    """What is done gives; a hit strikes what it answers."""
    deeds = [Deed("a", opens=True, steps=[("more", "m")]),
             Deed("hit", answers=["a", "hit"], steps=[("strike",)])]
    return Rules({"m": 1}, deeds)


def tower(cards=()):
    """A deed that, when it is done, leaves three entries more on the pile."""
    deeds = [Deed("x", opens=True, card=False), Deed("y", card=False), Deed("z", card=False)]
    wakings = [Waking("done", "x", "y"), Waking("done", "x", "y", by="next"),
               Waking("done", "x", "z"), Waking("done", "x", "x")]
    return Rules({"m": 1}, deeds + list(cards), wakings)


def with_chain(rules):
    """Rules without wakings and with an opening more, by which there are 1200 positions more.

    If asked again or once: three positions for each height from 1 to 400.
    """
    assert rules.wakings == [] and rules.seats == 2
    deeds = [Deed("x", opens=True, card=False), Deed("y", card=False)]
    wakings = [Waking("done", "x", "y"), Waking("done", "x", "x")]
    return Rules(rules.marks, rules.deeds + deeds, wakings, start=rules.start_counts())


def all_wishes(rules):
    found = [("last", seat) for seat in range(rules.seats)]
    for mark, end in rules.marks.items():
        for count in range(end + 1):
            found += [("least", mark, count), ("most", mark, count)]
    return found


def some_friends(rules):
    found = [[0], (1,), [1, 0], list(range(rules.seats))]
    return found + [(2,), (2, 0)] if rules.seats == 3 else found


class SmallTest(unittest.TestCase):
    def game(self, asking="again", **more):
        return Game(duel(), [{"a": 1, "hit": 1}, {"hit": 1}], asking=asking, **more)

    def test_positions(self):
        game = Game(duel(), [{"a": 1}, {"hit": 1}])
        mine, other = (("a", 1),), (("hit", 1),)
        a, hit = ("a", 0, None, False), ("hit", 1, None, True)
        wanted = [
            ((0,), (), (mine, other), (), (), None),
            ((0,), (a,), ((), other), (1, 0), (), 0),
            ((0,), (a,), ((), other), (0,), (1,), 0),
            ((0,), (a,), ((), other), (), (0, 1), 0),
            ((1,), (), ((), other), (), (), 0),
            ((0,), (a, hit), ((), ()), (0, 1), (), 1),
            ((0,), (a, hit), ((), ()), (1,), (0,), 1),
            ((0,), (a, hit), ((), ()), (), (0, 1), 1),
            ((0,), (), ((), ()), (), (), 1),
        ]
        self.assertEqual(game.positions(), sorted(wanted, key=str))
        self.assertEqual((len(game), game.first), (9, wanted[0]))
        self.assertEqual([game.mover(one) for one in wanted], [0, 1, 0, 0, None, 0, 1, 1, None])
        self.assertEqual([game.moves(one) for one in wanted], [
            [lay(0, "a")], [lay(1, "hit"), passing(1)], [passing(0)], [DONE], [], [passing(0)],
            [passing(1)], [DONE], []])
        self.assertEqual(game.after(wanted[1], lay(1, "hit")), wanted[5])
        self.assertEqual(game.after(wanted[1], passing(1)), wanted[2])
        for one in wanted:
            self.assertIs(one in game, True)

    def test_who_forces_what(self):
        # If asked again, each seat can strike the hit of the other one.
        again = self.game()
        self.assertIs(again.wins(("least", "m", 1), [0]), True)
        self.assertIs(again.wins(("least", "m", 1), [1]), True)
        self.assertIs(again.wins(("most", "m", 0), [0]), False)
        self.assertIs(again.wins(("most", "m", 0), [1]), False)
        self.assertIs(again.wins(("most", "m", 0), (1, 0)), True)
        self.assertIs(again.wins(("last", 0), [0]), True)
        self.assertIs(again.wins(("last", 1), [0]), False)
        self.assertIs(again.wins(("last", 1), [1]), False)
        self.assertIs(again.wins(("last", 1), (0, 1)), True)
        # Asked once around, seat 1 hits last.
        turn = self.game("round")
        self.assertIs(turn.wins(("least", "m", 1), [0]), False)
        self.assertIs(turn.wins(("most", "m", 0), [1]), True)
        self.assertIs(turn.wins(("last", 1), [1]), True)
        self.assertEqual((turn.greatest("m", [0]), turn.greatest("m", [1])), (0, 1))
        self.assertEqual((again.greatest("m", [0]), again.greatest("m", [1])), (1, 1))

    def test_counts_at_both_ends(self):
        game = self.game()
        for friends in [[0], [1], (0, 1)]:
            self.assertIs(game.wins(("least", "m", 0), friends), True)
            self.assertIs(game.wins(("most", "m", 1), friends), True)

    def test_another_table(self):
        game = self.game(table=(1,))
        self.assertEqual(game.first[0], (1,))
        self.assertIs(game.wins(("most", "m", 0), (0, 1)), False)
        self.assertEqual(game.greatest("m", [1]), 1)

    def test_no_opening_can_be_laid(self):
        for asking in READINGS:
            game = Game(duel(), [{"hit": 1}, {"a": 1}], asking=asking)
            self.assertEqual((len(game), game.mover(game.first), game.moves(game.first)), (1, 0, []))
            self.assertEqual((game.passed_over(), game.greatest("m", (0, 1))), ([], None))
            for friends in [[0], [1], [0, 1]]:
                for wish in all_wishes(duel()):
                    self.assertIs(game.wins(wish, friends), False)
                    self.assertIsNone(game.way(wish, friends))
                    self.assertEqual(game.guard(wish, friends), [(game.first, None)])
                    self.assertIs(game.holds_off(wish, friends, [(game.first, "any")]), True)
                    self.assertIs(game.shows(wish, friends, [(game.first, 0, None)]), False)

    def test_greatest_is_none_if_the_pile_need_not_end(self):
        rules = Rules({"m": 1}, [Deed("a", opens=True), Deed("b", answers=["a"], card=False,
                                                             whose="other")])
        game = Game(rules, [{"a": 1}, {}])
        self.assertIsNone(game.greatest("m", [0]))
        self.assertEqual(game.greatest("m", [1]), 0)
        self.assertIs(game.wins(("last", 0), [0]), False)
        self.assertIs(game.wins(("last", 0), [1]), True)

    def test_the_first_cause_for_each_error(self):
        game = self.game()
        with raises(self, BadArgument, "value", "wish"):
            game.wins("wish", "friends")
        with raises(self, NotThere, "word", "n"):
            game.greatest("n", "friends")
        with raises(self, BadPlace, "place", "position"):
            game.after("position", "move")

    def test_by_name(self):
        game = Game(hands=[{"a": 1}, {"hit": 1}], rules=duel(), asking="once", table=(0,))
        wish, friends = ("last", 0), [0]
        self.assertIs(game.wins(friends=friends, wish=wish), False)
        guard = game.guard(friends=friends, wish=wish)
        self.assertIs(game.holds_off(paper=guard, friends=friends, wish=wish), True)
        self.assertIsNone(game.way(friends=friends, wish=wish))
        self.assertIs(game.shows(paper=guard, friends=friends, wish=wish), False)
        self.assertEqual(game.greatest(friends=friends, mark="m"), 0)
        behind = game.after(move=lay(0, "a"), position=game.first)
        self.assertEqual(game.mover(position=behind), 1)
        self.assertEqual(len(game.moves(position=behind)), 2)
        with self.assertRaises(TypeError):
            Game(duel(), [{}, {}], (0,))


class PassedOverTest(unittest.TestCase):
    def test_by_which_reading(self):
        def over(asking, *numbers):
            return Game(talk(len(numbers)), cards(*numbers), asking=asking).passed_over()
        self.assertEqual(over("again", 1, 1), [])
        self.assertEqual(over("again", 1, 1, 1), [])
        # Seat 1 passes, then seat 0 lays once more.
        self.assertEqual(over("once", 1, 0), [])
        self.assertEqual(over("once", 1, 1), [(1, "b")])
        self.assertEqual(over("once", 1, 2), [(0, "b"), (1, "b")])
        self.assertEqual(over("once", 0, 1), [])
        self.assertEqual(over("once", 0, 1, 1), [(1, "b")])
        self.assertEqual(over("round", 1, 0), [(0, "b")])
        self.assertEqual(over("round", 0, 1), [])
        self.assertEqual(over("round", 0, 2), [(1, "b")])
        # Seat 2 is asked last: nobody lays behind it.
        self.assertEqual(over("round", 1, 1, 1), [(0, "b"), (1, "b")])
        self.assertEqual(over("round", 0, 0, 2), [(2, "b")])

    def test_a_deed_without_a_card(self):
        rules = Rules({}, [Deed("a", opens=True), Deed("b", answers=["a"], card=False)])
        game = Game(rules, [{"a": 1}, {}], asking="round")
        # Seat 0 is not asked on what it opened with; and all are asked on what was not laid on.
        self.assertEqual(game.passed_over(), [(0, "b")])
        game = Game(rules.changed(deeds=[Deed("a", opens=True), Deed("b", answers=["a", "b"],
                                                                    card=False, whose="other")]),
                    [{"a": 1}, {}], asking="round")
        self.assertEqual(game.passed_over(), [(0, "b")])

    def test_what_cannot_be_paid_is_not_passed_over(self):
        deeds = [Deed("a", opens=True), Deed("b", answers=["a"], pays={"m": 1})]
        rules = Rules({"m": 1}, deeds)
        hands = [{"a": 1, "b": 1}, {}]
        self.assertEqual(Game(rules, hands, asking="round").passed_over(), [])
        self.assertEqual(Game(rules, hands, asking="round", table=(1,)).passed_over(), [(0, "b")])


class HighPilesTest(unittest.TestCase):
    def test_400_entries(self):
        game = Game(tower(), [{}, {}])
        highest = [one for one in game.positions() if len(one[1]) == 400]
        self.assertEqual(max(len(one[1]) for one in game.positions()), 400)
        self.assertEqual(len(game), 1 + 3 * 134)
        # What would leave 403 entries cannot be done: the seat of the top chooses, and has no move.
        stuck = [one for one in highest if one[3] == ()]
        self.assertEqual([game.moves(one) for one in stuck], [[]])
        self.assertEqual([game.mover(one) for one in stuck], [0])
        with raises(self, BadMove, "move", DONE):
            game.after(stuck[0], DONE)
        for friends in [[0], [1], [0, 1]]:
            wish = ("least", "m", 0)
            self.assertIs(game.wins(wish, friends), False)
            guard = game.guard(wish, friends)
            self.assertEqual(len(guard), len(game))
            self.assertIs(game.holds_off(wish, friends, guard), True)
            # A seat that has no move forces nothing, a friend or not: all rows but the last are right.
            rows = [(game.first, 1000, lay(0, "x"))]
            while game.moves(rows[-1][0]):
                position = game.after(rows[-1][0], rows[-1][2])
                rows.append((position, rows[-1][1] - 1, (game.moves(position) + [None])[0]))
            self.assertEqual(len(rows), len(game))
            self.assertIs(game.shows(wish, friends, rows), False)
        self.assertIsNone(game.greatest("m", [0, 1]))

    def test_laying_on_400_entries(self):
        game = Game(tower([Deed("c", answers=["x"])]), [{}, {"c": 1}])
        asked = [one for one in game.positions() if one[3][:1] == (1,) and one[2] == ((), (("c", 1),))]
        self.assertEqual(len(asked), 134)
        for one in asked:
            moves = [lay(1, "c"), passing(1)] if len(one[1]) < 400 else [passing(1)]
            self.assertEqual(game.moves(one), moves)
            if len(one[1]) == 397:
                self.assertEqual(len(game.after(one, moves[0])[1]), 398)
        high = [one for one in game.positions() if len(one[1]) == 398]
        self.assertIs(all(one[1][-1][0] == "c" for one in high), True)

    def test_what_cannot_be_laid_is_not_passed_over(self):
        # On all lower tops seat 1 is asked and has passed; on 400 entries nothing is done.
        deeds = [Deed("c", answers=["x"], whose="other")]
        game = Game(tower(deeds), [{}, {"c": 1}], asking="round")
        self.assertEqual(game.passed_over(), [])

    def test_1500_and_1501_positions(self):
        for seed, many in [(4627, 300), (5511, 301)]:
            rules = made_rules(seed, 4)
            hands = some_hands(seed, rules, {4627: 2, 5511: 3}[seed])
            self.assertEqual(len(refasking.all_positions(rules, hands, "once")), many)
            self.assertEqual(len(Game(rules, hands, asking="once")), many)
            if many == 300:
                self.assertEqual(len(Game(with_chain(rules), hands, asking="once")), 1500)
            else:
                with raises(self, TooMany, "most", 1500):
                    Game(with_chain(rules), hands, asking="once")

    def test_far_too_many(self):
        deeds = [Deed("a", opens=True, answers=["a"], card=False)]
        with raises(self, TooMany, "most", 1500):
            Game(Rules({}, deeds), [{}, {}])


class AgreementTest(unittest.TestCase):
    """Against the words of the document, for rules of all kinds."""

    def some(self, seeds, most=120, cards=1):
        for seed in seeds:
            rules = made_rules(seed)
            hands = some_hands(seed, rules, cards)
            for asking in READINGS:
                positions = refasking.all_positions(rules, hands, asking, most)
                if positions is not None:
                    yield rules, hands, asking, positions, Game(rules, hands, asking=asking)

    def test_positions_and_moves(self):
        compared = 0
        for rules, hands, asking, positions, game in self.some(range(120)):
            self.assertEqual(game.first, refasking.first(rules, hands))
            self.assertEqual(game.positions(), sorted(positions, key=str))
            self.assertEqual(len(game), len(positions))
            for position, row in positions.items():
                compared += len(row)
                self.assertIs(is_position(rules, position), True)
                self.assertEqual(game.mover(position), refasking.chooser(rules, position))
                self.assertEqual(game.moves(position), sorted(row, key=str))
                for move, behind in row.items():
                    self.assertEqual(game.after(position, move), behind)
            self.assertEqual(game.passed_over(), refasking.passed_over(rules, positions))
            if asking == "again":
                self.assertEqual(game.passed_over(), [])
        self.assertGreater(compared, 1500)

    def test_moves_lead_where_states_do(self):
        for rules, hands, asking, positions, game in self.some(range(60)):
            for position in game.positions():
                table, pile, kept, waiting, asked, last = position
                state = State(rules, table, pile, hands=[dict(hand) for hand in kept])
                for move in game.moves(position):
                    if move[0] != "pass":
                        behind = game.after(position, move)
                        wanted = state.after(move)
                        self.assertEqual((behind[0], list(behind[1])), (wanted.table, wanted.pile))
                        self.assertEqual([dict(hand) for hand in behind[2]], wanted.hands)

    def test_wishes(self):
        told = {True: 0, False: 0}
        for rules, hands, asking, positions, game in self.some(range(70), 80):
            for wish in all_wishes(rules):
                for friends in some_friends(rules):
                    won = refasking.forced(rules, positions, wish, friends)
                    wins = game.first in won
                    told[wins] += 1
                    self.assertIs(game.wins(wish, friends), wins)
                    way, guard = game.way(wish, friends), game.guard(wish, friends)
                    self.assertEqual((way is not None, guard is not None), (wins, not wins))
                    self.assertIs(game.shows(wish, friends, way), wins)
                    self.assertIs(game.holds_off(wish, friends, guard), not wins)
                    paper = way or guard
                    self.assertEqual(paper, sorted(paper, key=str))
                    if wins:
                        self.assertTrue(refasking.is_way(rules, asking, game.first, wish, friends, way))
                        self.assertIs(game.holds_off(wish, friends, [row[::2] for row in way]), False)
                    else:
                        self.assertTrue(refasking.is_guard(rules, asking, game.first, wish, friends,
                                                           guard))
                        rows = [(row[0], at, row[1]) for at, row in enumerate(guard)]
                        self.assertIs(game.shows(wish, friends, rows), False)
            for mark, end in rules.marks.items():
                for friends in some_friends(rules):
                    counts = [count for count in range(end + 1)
                              if game.wins(("least", mark, count), friends)]
                    self.assertEqual(game.greatest(mark, friends), max(counts, default=None))
        self.assertGreater(min(told.values()), 300)

    def test_papers_of_any_author(self):
        told = {True: 0, False: 0}
        for rules, hands, asking, positions, game in self.some(range(45), 40):
            numbers = Numbers(len(positions))
            known = game.positions()
            for wish in all_wishes(rules)[::2]:
                for friends in some_friends(rules)[:3]:
                    way, guard = game.way(wish, friends), game.guard(wish, friends)
                    for _ in range(4):
                        if way is not None:
                            rows = altered(numbers, way, known, game)
                            wanted = refasking.is_way(rules, asking, game.first, wish, friends, rows)
                            self.assertIs(game.shows(wish, friends, rows), wanted)
                        else:
                            rows = altered(numbers, guard, known, game)
                            wanted = refasking.is_guard(rules, asking, game.first, wish, friends, rows)
                            self.assertIs(game.holds_off(wish, friends, rows), wanted)
                        told[wanted] += 1
        self.assertGreater(min(told.values()), 300)


def altered(numbers, paper, known, game):
    """A paper of which a row was left out, doubled, put elsewhere, changed, or to which one came."""
    rows = list(paper)
    at = numbers.below(len(rows))
    way = numbers.below(8)
    row = rows.pop(at)
    moves = game.moves(row[0]) + [None]
    if way == 0:
        return rows
    if way == 1:
        return rows + [row, row]
    if way == 2:
        return rows[::-1] + [row]
    if way == 3 and len(row) == 3:
        return rows + [(row[0], row[1] + 1 + numbers.below(3), row[2])]
    if way == 4 and len(row) == 3 and row[1]:
        return rows + [(row[0], row[1] - 1, row[2])]
    if way == 5:
        other = numbers.one_of(known)
        return rows + [row, (other,) + row[1:]]
    if way == 6:
        # All numbers twice as great: they fall all the same.
        return [(one[0],) + tuple(2 * number for number in one[1:-1]) + one[-1:] for one in rows + [row]]
    return rows + [row[:-1] + (numbers.one_of(moves),)]


class PapersTest(unittest.TestCase):
    def setUp(self):
        self.game = Game(duel(), [{"a": 1}, {"hit": 1}])
        self.wish = ("most", "m", 0)
        self.way = self.game.way(self.wish, [1])
        self.guard = self.game.guard(self.wish, [0])

    def test_numbers(self):
        game, wish, way = self.game, self.wish, self.way
        self.assertEqual(sorted(number for _, number, _ in way), [0, 1, 2, 3, 4, 5])
        more = [(position, number + 10 ** 50, move) for position, number, move in way]
        self.assertIs(game.shows(wish, [1], more), True)
        equal = [(position, 7, move) for position, number, move in way]
        self.assertIs(game.shows(wish, [1], equal), False)
        opposite = [(position, 9 - number, move) for position, number, move in way]
        self.assertIs(game.shows(wish, [1], opposite), False)
        for wrong in [-1, True, False, None, 0.0, "0", [0]]:
            rows = [row if row[1] else (row[0], wrong, row[2]) for row in way]
            self.assertIs(game.shows(wish, [1], rows), False, wrong)

    def test_rows(self):
        game, wish = self.game, self.wish
        for judge, friends, paper in [(game.shows, [1], self.way), (game.holds_off, [0], self.guard)]:
            self.assertIs(judge(wish, friends, paper), True)
            self.assertIs(judge(wish, friends, paper[::-1]), True)
            for at, row in enumerate(paper):
                self.assertIs(judge(wish, friends, paper + [row]), False)
                self.assertIs(judge(wish, friends, paper[:at] + paper[at + 1:]), False)
                self.assertIs(judge(wish, friends, paper[:at] + [list(row)] + paper[at + 1:]), False)
                self.assertIs(judge(wish, friends, paper[:at] + [row[:-1]] + paper[at + 1:]), False)
                self.assertIs(judge(wish, friends, paper[:at] + [row + (0,)] + paper[at + 1:]), False)
            self.assertIs(judge(wish, friends, tuple(paper)), False)
            self.assertIs(judge(wish, friends, []), False)
            for value in ODD:
                self.assertIs(judge(wish, friends, value), False)
                self.assertIs(judge(wish, friends, paper + [value]), False)
                self.assertIs(judge(wish, friends, paper + [(value,) + paper[0][1:]]), False)

    def test_moves_that_are_not_looked_at(self):
        game, wish = self.game, self.wish
        for value in ODD:
            rows = [(position, number, move if game.mover(position) == 1 else value)
                    for position, number, move in self.way]
            self.assertIs(game.shows(wish, [1], rows), True)
            rows = [(position, move if game.mover(position) == 1 else value)
                    for position, move in self.guard]
            self.assertIs(game.holds_off(wish, [0], rows), True)
            # Those of the seats that keep to the paper are.
            rows = [(position, number, value) for position, number, move in self.way]
            self.assertIs(game.shows(wish, [1], rows), False)
            rows = [(position, value) for position, move in self.guard]
            self.assertIs(game.holds_off(wish, [0], rows), False)

    def test_moves_of_another_kind_that_are_equal(self):
        game, wish = self.game, self.wish
        swap = {lay(1, "hit"): ("lay", True, "hit", None, ()), passing(1): ("pass", True)}
        rows = [(position, number, swap.get(move, move)) for position, number, move in self.way]
        self.assertIs(game.shows(wish, [1], rows), False)
        rows = [(position, swap.get(move, move)) for position, move in self.guard]
        self.assertIs(game.holds_off(wish, [0], rows), False)

    def test_positions_to_which_play_cannot_come(self):
        game, wish = self.game, self.wish
        ended = ((0,), (), ((("hit", 9),), ()), (), (), 1)
        self.assertIs(ended in game, False)
        self.assertIs(game.shows(wish, [1], self.way + [(ended, 0, None)]), True)
        self.assertIs(game.holds_off(wish, [0], self.guard + [(ended, None)]), False)
        other = ((1,),) + ended[1:]
        self.assertIs(game.shows(wish, [1], self.way + [(other, 0, None)]), False)
        self.assertIs(game.holds_off(("most", "m", 0), [0], self.guard + [(other, None)]), True)
        # The row of a position from which nothing ends is wrong in the one, right in the other.
        nothing = ((0,), (), ((), ()), (), (), None)
        self.assertIs(game.shows(wish, [1], self.way + [(nothing, 9, None)]), False)
        self.assertIs(game.holds_off(wish, [0], self.guard + [(nothing, None)]), True)

    def test_a_paper_of_another_wish_or_of_other_friends(self):
        game = self.game
        self.assertIs(game.shows(("least", "m", 1), [1], self.way), False)
        self.assertIs(game.shows(self.wish, [0], self.way), False)
        self.assertIs(game.shows(("last", 1), [1], self.way), True)
        self.assertIs(game.holds_off(self.wish, [1], self.guard), False)
        self.assertIs(game.holds_off(self.wish, [0, 1], self.guard), False)

    def test_friends_in_any_order_and_doubled(self):
        game = self.game
        for friends in [[0, 1], (1, 0), [1, 1, 0]]:
            self.assertIs(game.wins(self.wish, friends), True)
            self.assertIs(game.wins(("least", "m", 1), friends), True)
            # In the second one, what is laid leads to as great a number as that of the position.
            for wish in [self.wish, ("least", "m", 0)]:
                self.assertIs(game.shows(wish, friends, game.way(wish, friends)), True)


class WrongArgumentsTest(unittest.TestCase):
    def setUp(self):
        self.game = Game(duel(), [{"a": 1}, {"hit": 1}])

    def test_of_the_class(self):
        for value in ODD + [Rules]:
            with raises(self, BadRules, "part", value):
                Game(value, 5, table=5, asking=5)
        for value in ODD + ["Again", "again ", "onces", ["again"], b"again"]:
            with raises(self, BadArgument, "value", value):
                Game(duel(), 5, table=5, asking=value)
        for value in odd_but(None, (0,)) + [[0], (True,), (2,), (0, 0), ()]:
            with raises(self, BadTable, "table", value):
                Game(duel(), 5, table=value)
        for value in odd_but([{}, {}]) + [[{"a": 10}, {}], [{"a": True}, {}], [{"b": 1}, {}], [{}],
                                          [{"a": -1}, {}], (("a", 1), ())]:
            with raises(self, BadHands, "value", value):
                Game(duel(), value)

    def test_positions(self):
        game = self.game
        reached = game.positions()
        wrong = [list(game.first), game.first[:5], game.first + (None,), ((1,),) + game.first[1:],
                 ((False,),) + game.first[1:], ((0.0,),) + game.first[1:]]
        for value in ODD + wrong:
            self.assertIs(value in game, False)
            for call in [game.mover, game.moves, lambda one: game.after(one, "x")]:
                with raises(self, BadPlace, "place", value):
                    call(value)
        for value in ODD + [("pass", 2), ("pass", True), ("pass", 1.0), ["pass", 1], ("pass",), ("pass", 1, 1),
                            lay(True, "hit"), list(lay(1, "hit")), lay(1, "a"), lay(0, "hit")]:
            for position in reached:
                if value not in game.moves(position) or value in (("pass", True), lay(True, "hit")):
                    with raises(self, BadMove, "move", value):
                        game.after(position, value)

    def test_wishes(self):
        game = self.game
        wrong = [("least", "m", 2), ("least", "m", -1), ("least", "m", True), ("least", "m", 0.0),
                 ("least", "n", 0), ("least", "a", 0), ("least", "m"), ["least", "m", 0],
                 ("most", "m", 2), ("most", [], 0), ("most", "m", "0"), ("most", "m", 0, 0),
                 ("last", 2), ("last", True), ("last", -1), ("last", 0.0), ("last",), ("last", 0, 0),
                 ("first", 0), ("exactly", "m", 0), ([], "m", 0), ([], 0), ("last", None)]
        for value in ODD + wrong:
            for call in [game.wins, game.way, game.guard, lambda one, two: game.shows(one, two, []),
                         lambda one, two: game.holds_off(one, two, [])]:
                with raises(self, BadArgument, "value", value):
                    call(value, "x")

    def test_friends(self):
        game = self.game
        wish = ("last", 0)
        wrong = [[], (), [2], [True], [0, 2], [0, False], [0, None], "0", 0, {0: 1}, {0}, [0.0], [-1],
                 [[0]], range(2)]
        for value in odd_but((0, 0)) + wrong:
            for call in [game.wins, game.way, game.guard, lambda one, two: game.shows(one, two, []),
                         lambda one, two: game.holds_off(one, two, [])]:
                with raises(self, BadArgument, "value", value):
                    call(wish, value)
            with raises(self, BadArgument, "value", value):
                game.greatest("m", value)

    def test_marks(self):
        for value in ODD + ["n", "mm", "goal", ["m"], ("m",)]:
            with raises(self, NotThere, "word", value):
                self.game.greatest(value, "x")


class CallersTest(unittest.TestCase):
    def test_caller_may_change_what_was_given_and_told(self):
        hands = [{"a": 1}, {"hit": 1}]
        game = Game(duel(), hands)
        wanted = Game(duel(), [{"a": 1}, {"hit": 1}])
        hands[0].clear()
        hands.pop()
        wish = ("most", "m", 0)
        friends = [1]
        for _ in range(2):
            self.assertEqual(game.positions(), wanted.positions())
            game.positions().clear()
            game.moves(game.first).clear()
            game.way(wish, friends).clear()
            game.guard(wish, [0]).clear()
            game.passed_over().append(5)
            self.assertEqual(game.moves(game.first), [lay(0, "a")])
            self.assertEqual(game.way(wish, friends), wanted.way(wish, [1]))
            self.assertEqual(game.guard(wish, [0]), wanted.guard(wish, [0]))
            self.assertEqual(game.passed_over(), [])
        paper = game.way(wish, friends)
        self.assertIs(game.shows(wish, friends, paper), True)
        self.assertEqual(paper, wanted.way(wish, [1]))
        paper.pop()
        self.assertIs(game.shows(wish, friends, paper), False)

    def test_table_follows(self):
        table = Table(Game(talk(2), cards(1, 1)))
        table.do(lay(0, "a"), passing(1))
        self.assertEqual(table.at[4], (1,))
