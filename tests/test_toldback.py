"""What was seen of a play, and the plays that go with it [15]."""

import unittest

from answerpiles.errors import BadArgument, BadNumber, TooMany
from answerpiles.given import Given
from answerpiles.piles import State
from answerpiles.rules import Deed, Rules, Waking
from answerpiles.toldback import Told

from helps import ODD, odd_but, raises
from somerules import Numbers, made_rules, some_hands
from test_counting import answered, small
from test_given import two
from test_rings import lay

DONE = ("done", "steps", (), ())


def seen_of(rules, hands, play):
    """What could be seen of a play, and the (word, seat) of the tops that were done."""
    states = [State(rules, hands=hands)] + State(rules, hands=hands).played(play)
    seen, tops = [], []
    for move, before, behind in zip(play, states, states[1:]):
        if move[0] == "done":
            seen.append((before.pile[-1][0], behind.table))
            tops.append(before.pile[-1][:2])
    return seen, tops


def goes_with(seen, whole):
    """Whether what was seen goes with all that could be seen of a play."""
    return len(seen) == len(whole) and all(
        word in (None, full[0]) and table in (None, full[1])
        for (word, table), full in zip(seen, whole))


def plays_with(state, tops, moves=(), done=0):
    """All plays from a state in which just so many tops are done, in order."""
    found = []
    for move in state.moves():
        behind = state.after(move)
        more = done + (move[0] == "done")
        if behind.is_over:
            found += [list(moves) + [move]] if more == tops else []
        elif more < tops and len(behind) <= 2 * (tops - more):
            # No top that is done takes more than two entries away.
            found += plays_with(behind, tops, moves + (move,), more)
    return found


def layers_of(play):
    return {move[1:3] for move in play if move[0] == "lay"}


def counted_down():
    """A deed that, when it is done, may be called once more, for ever."""
    rules = Rules({}, [Deed("a", opens=True), Deed("b", card=False)],
                  [Waking("done", "a", "b"), Waking("done", "b", "b", may=True)])
    return Given(rules, [{"a": 1}, {}])


class SmallTest(unittest.TestCase):
    def test_nothing_seen(self):
        for seen in [(), []]:
            told = Told(small(), seen)
            self.assertEqual((len(told), told.amount), (0, 0))
            self.assertEqual(list(told.stories()), [])
            self.assertEqual((told.laid(), told.surely_laid()), ([], []))
            with raises(self, BadNumber, "number", 0):
                told.tops(0)
            with raises(self, BadNumber, "number", 0):
                told.tables(0)

    def test_one_top(self):
        told = Told(small(), [(None, None)])
        self.assertEqual((len(told), told.amount), (1, 3))
        plays = [[lay(0, "a"), DONE], [lay(0, "a"), lay(0, "hit"), DONE],
                 [lay(0, "a"), lay(1, "hit"), DONE]]
        self.assertEqual(list(told.stories()), plays)
        self.assertEqual(told.tops(0), [("a", 0), ("hit", 0), ("hit", 1)])
        self.assertEqual(told.tables(0), [(0,), (1,)])
        self.assertEqual(told.laid(), [(0, "a"), (0, "hit"), (1, "hit")])
        self.assertEqual(told.surely_laid(), [(0, "a")])

    def test_words_and_tables(self):
        told = Told(small(), (("hit", None),))
        self.assertEqual((told.amount, told.tops(0)), (2, [("hit", 0), ("hit", 1)]))
        self.assertEqual(told.tables(0), [(0,)])
        told = Told(small(), [(None, (1,))])
        self.assertEqual((told.amount, told.tops(0)), (1, [("a", 0)]))
        told = Told(small(), [("hit", None), ("hit", (0,))])
        self.assertEqual(told.amount, 6)
        self.assertEqual(told.surely_laid(), [(0, "a"), (0, "hit"), (1, "hit")])
        told = Told(small(), [("hit", None), (None, (1,))])
        self.assertEqual((told.amount, told.surely_laid()), (3, [(0, "a"), (0, "hit")]))
        self.assertEqual(told.laid(), [(0, "a"), (0, "hit"), (1, "hit")])
        self.assertEqual((told.tops(1), told.tables(0), told.tables(1)), ([("a", 0)], [(0,)], [(1,)]))

    def test_no_play_goes_with_it(self):
        for seen in [[("a", (0,))], [("hit", (1,))], [("a", None), ("a", None)], [(None, None)] * 3]:
            told = Told(small(), seen)
            self.assertEqual((len(told), told.amount, list(told.stories())), (len(seen), 0, []))
            for at in range(len(seen)):
                self.assertEqual((told.tops(at), told.tables(at)), ([], []))
            self.assertEqual((told.laid(), told.surely_laid()), ([], []))

    def test_sixty_tops(self):
        told = Told(counted_down(), [(None, None)] * 60)
        self.assertEqual((len(told), told.amount), (60, 1))
        story = list(told.stories())[0]
        self.assertEqual(len(story), 61)
        self.assertEqual([told.tops(at) for at in (0, 1, 59)], [[("a", 0)], [("b", 0)], [("b", 0)]])
        self.assertEqual((told.laid(), told.surely_laid()), ([(0, "a")], [(0, "a")]))
        for value in [60, -1]:
            with raises(self, BadNumber, "number", value):
                told.tops(value)
        self.assertEqual(Told(counted_down(), [("a", ())] + [("b", ())] * 59).amount, 1)
        self.assertEqual(Told(counted_down(), [("b", ())] + [("b", ())] * 59).amount, 0)
        wrong = [(None, None)] * 61
        with raises(self, BadArgument, "value", wrong):
            Told(counted_down(), wrong)

    def test_exact_however_many(self):
        told = Told(answered(), [(None, None)] * 60)
        self.assertEqual(told.amount, 2 ** 59)
        self.assertEqual(len(list(told.stories())), 1000)
        self.assertEqual(told.laid(), [(0, "a"), (0, "b"), (1, "b")])
        self.assertEqual(told.surely_laid(), [(0, "a")])
        first = next(told.stories())
        self.assertEqual(first, [lay(0, "a")] + [lay(0, "b"), DONE] * 59 + [DONE])

    def test_done_instead_is_done(self):
        deeds = [Deed("a", opens=True), Deed("b", card=False)]
        rules = Rules({}, deeds, [Waking("instead", "a", "b", by="next", may=True)])
        told = Told(Given(rules, [{"a": 1}, {}]), [("a", None), (None, None)])
        self.assertEqual((told.amount, told.tops(1)), (1, [("b", 1)]))
        self.assertEqual(list(told.stories())[0][1], ("done", "instead", (), ((0, None),)))
        # Calls are not laid by a move with which a seat lays.
        self.assertEqual(told.surely_laid(), [(0, "a")])

    def test_by_name(self):
        told = Told(seen=[(None, None)], given=small())
        self.assertEqual(len(list(told.stories(most=2))), 2)
        self.assertEqual(told.tops(at=0), told.tops(0))
        self.assertEqual(told.tables(at=0), told.tables(0))


class StoriesTest(unittest.TestCase):
    def test_most(self):
        told = Told(small(), [(None, None)] * 2)
        stories = list(told.stories())
        self.assertEqual((len(stories), told.amount), (9, 9))
        for most in [0, 1, 2, 8, 9, 10, 1000]:
            self.assertEqual(list(told.stories(most)), stories[:most])
        many = Told(answered(), [(None, None)] * 13)
        self.assertEqual(many.amount, 4096)
        self.assertEqual(len(list(many.stories(1000))), 1000)
        self.assertEqual(list(many.stories(999)), list(many.stories())[:999])

    def test_wrong_numbers(self):
        told = Told(small(), [(None, None)])
        for value in odd_but(0, 1, 2, 7) + [1001, -1, True, False, 1.0, "1"]:
            # The error comes when the first value is asked for.
            stories = told.stories(value)
            with raises(self, BadNumber, "number", value):
                next(stories)


class AgreementTest(unittest.TestCase):
    """Against plays that are gone through one by one."""

    def some(self):
        for seed in range(150):
            rules = made_rules(seed)
            hands = some_hands(seed, rules)
            try:
                given = Given(rules, hands)
            except TooMany:
                continue
            many = given.many()
            if many is None or many > 150:
                continue
            plays = list(given.plays(60))
            # Only where all plays were gone through.
            if many and len(plays) == many:
                yield rules, hands, given, plays

    def test_told_back(self):
        compared = 0
        for rules, hands, given, plays in self.some():
            whole = [seen_of(rules, hands, play) for play in plays]
            numbers = Numbers(len(plays))
            for _ in range(6):
                seen, _ = whole[numbers.below(len(whole))]
                seen = [(word if numbers.chance(1, 3) else None, table if numbers.chance(1, 3) else None)
                        for word, table in seen]
                if numbers.chance(1, 4):
                    seen[-1] = (numbers.one_of(rules.words()), numbers.one_of(rules.tables()))
                self.compare(given, seen, plays, whole)
                compared += 1
        self.assertGreater(compared, 150)

    def test_few_tops(self):
        compared = 0
        for seed in range(150):
            rules = made_rules(seed)
            hands = some_hands(seed, rules)
            try:
                given = Given(rules, hands)
            except TooMany:
                continue
            if len(given) > 200:
                continue
            for tops in [1, 2, 3]:
                plays = plays_with(State(rules, hands=hands), tops)
                if plays and len(plays) < 200:
                    whole = [seen_of(rules, hands, play) for play in plays]
                    self.compare(given, [(None, None)] * tops, plays, whole)
                    for seen, _ in whole[::9]:
                        self.compare(given, seen, plays, whole)
                    compared += 1
        self.assertGreater(compared, 60)

    def test_what_is_laid_leads_to_a_pile_that_was_there_before(self):
        # The opening a calls b at once; behind c, a lies alone, and b is laid on it later.
        deeds = [Deed("a", opens=True, card=False), Deed("b", answers=["a"], whose="own", card=False),
                 Deed("c", opens=True, card=False)]
        rules = Rules({}, deeds, [Waking("laid", "a", "b"), Waking("done", "c", "a")])
        hands = [{}, {}]
        for tops in [1, 2, 3, 4, 5]:
            plays = plays_with(State(rules, hands=hands), tops)
            whole = [seen_of(rules, hands, play) for play in plays]
            self.compare(Given(rules, hands), [(None, None)] * tops, plays, whole)
            self.compare(Given(rules, hands), [("c", ())] + [(None, None)] * (tops - 1), plays, whole)
            self.assertEqual(len(plays), [0, 2, 2, 2, 2][tops - 1])

    def compare(self, given, seen, plays, whole):
        told = Told(given, seen)
        right = [at for at, (full, _) in enumerate(whole) if goes_with(seen, full)]
        self.assertEqual((len(told), told.amount), (len(seen), len(right)))
        self.assertEqual(list(told.stories()), [plays[at] for at in right])
        for at in range(len(seen)):
            self.assertEqual(told.tops(at), sorted({whole[one][1][at] for one in right}))
            self.assertEqual(told.tables(at), sorted({whole[one][0][at][1] for one in right}))
        laid = [layers_of(plays[at]) for at in right]
        self.assertEqual(told.laid(), sorted(set().union(*laid)))
        sure = set.intersection(*laid) if laid else set()
        self.assertEqual(told.surely_laid(), sorted(sure))

    def test_what_was_seen_has_its_play_among_its_stories(self):
        for rules, hands, given, plays in self.some():
            for play in plays[::7]:
                seen, tops = seen_of(rules, hands, play)
                told = Told(given, seen)
                self.assertIn(play, list(told.stories()))
                for at, top in enumerate(tops):
                    self.assertIn(top, told.tops(at))


class WrongArgumentsTest(unittest.TestCase):
    def test_given(self):
        for value in ODD + [two(), Given]:
            with raises(self, BadArgument, "value", value):
                Told(value, "seen")

    def test_seen(self):
        given = small()
        wrong = [[("a",)], [("a", (0,), 1)], [["a", (0,)]], [("b", None)], [("m", None)], [(None, (3,))],
                 [(None, [0])], [(None, (True,))], [(None, ())], [(None, 0)], [(0, None)], [([], None)],
                 [("a", None), None], {("a", None): 1}, ("a", None), [(True, None)], [("", None)],
                 [(None, None)] * 61, ((None, None),) * 61]
        for value in odd_but([], ()) + wrong:
            with raises(self, BadArgument, "value", value):
                Told(given, value)

    def test_indexes(self):
        told = Told(small(), [(None, None)] * 2)
        self.assertEqual([len(told.tops(at)) for at in (0, 1)], [2, 3])
        for value in odd_but(0, 1) + [2, -1, -2, True, False, 0.0, "0"]:
            for call in [told.tops, told.tables]:
                with raises(self, BadNumber, "number", value):
                    call(value)

    def test_caller_may_change_what_was_given_and_told(self):
        seen = [("hit", None), (None, None)]
        told = Told(small(), seen)
        wanted = Told(small(), [("hit", None), (None, None)])
        seen.clear()
        for _ in range(2):
            stories = []
            for story in told.stories():
                stories.append(list(story))
                story.clear()
            self.assertEqual(stories, list(wanted.stories()))
            for call in [lambda: told.tops(0), lambda: told.tables(1), told.laid, told.surely_laid]:
                call().append("x")
        self.assertEqual((len(told), told.amount), (2, wanted.amount))
        self.assertEqual(list(told.stories()), list(wanted.stories()))
        self.assertEqual((told.tops(0), told.tables(1)), (wanted.tops(0), wanted.tables(1)))
        self.assertEqual((told.laid(), told.surely_laid()), (wanted.laid(), wanted.surely_laid()))
