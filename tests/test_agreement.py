"""The program against plays that are gone through one by one, for rules of all kinds."""

import unittest

import reference

from answerpiles.falling import is_paper, paper_of, pays_down
from answerpiles.piles import State
from answerpiles.rings import Outlook, is_ring
from answerpiles.walks import both_walks, spelled_end
from answerpiles.ways import edges_of, reached, spelled_way

from somerules import Numbers, made_rules

SEEDS = range(130)


class StatesTest(unittest.TestCase):
    def test_moves_and_what_is_behind_them(self):
        for seed in SEEDS:
            rules = made_rules(seed)
            numbers = Numbers(seed)
            state = State(rules)
            for _ in range(12):
                steps = reference.steps(rules, state.table, tuple(state.pile))
                wanted = {step.move: (step.table, step.pile) for step in steps}
                pairs = list(state.lays()) + list(state.dones())
                told = {move: (behind.table, tuple(behind.pile)) for move, behind in pairs}
                self.assertEqual(told, wanted, seed)
                self.assertEqual(len(pairs), len(told))
                self.assertEqual(state.moves(), sorted(wanted, key=str))
                if not wanted:
                    break
                state = state.after(numbers.one_of(state.moves()))


class PlacesTest(unittest.TestCase):
    def test_places_and_plays_to_them(self):
        for seed in SEEDS:
            rules = made_rules(seed)
            near = reference.reached_within(rules, 3, most=1500)
            if near is None:
                continue
            outlook = Outlook(rules)
            for place in near:
                self.assertEqual(len(outlook.play_to(place)), near[place], seed)
            for place in outlook.places()[::7]:
                play = outlook.play_to(place)
                self.assertEqual(near.get(place, 4) <= len(play), True)
                states = State(rules).played(play)
                ahead = states[-2] if len(states) > 1 else State(rules)
                steps = reference.steps(rules, ahead.table, tuple(ahead.pile))
                last = [step for step in steps if step.move == play[-1]][0]
                self.assertIn(place, [one for one, at in reference.places_of(last)], seed)
                self.assertFalse(any(state.is_over for state in states))

    def test_places_everywhere(self):
        for seed in SEEDS:
            rules = made_rules(seed)
            near = reference.reached_within(rules, 3, everywhere=True, most=1000)
            outlook = Outlook(rules, everywhere=True)
            for place in near or []:
                self.assertIn(place, outlook)
            self.assertTrue(set(Outlook(rules).places()) <= set(outlook.places()))

    def test_ends(self):
        whole_ones = 0
        for seed in SEEDS:
            rules = made_rules(seed)
            outlook = Outlook(rules, everywhere=seed % 2 == 1)
            places = outlook.places()
            for place in places[::1 + len(places) // 6]:
                for calm in [False, True]:
                    told = outlook.calm_ends(place) if calm else outlook.ends(place)
                    found, whole = reference.ends_within(rules, place, len(place[2]) + 4, calm, 150)
                    self.assertEqual(told, sorted(told, key=str))
                    self.assertTrue(found <= set(told), (seed, place))
                    if whole:
                        whole_ones += 1
                        self.assertEqual(found, set(told), (seed, place))
                    never = outlook.never(calm=calm)
                    self.assertEqual(place in never, not told)
                    self.assertEqual(never, sorted(never, key=str))
        self.assertGreater(whole_ones, 300)

    def test_results(self):
        for seed in SEEDS:
            rules = made_rules(seed)
            outlook = Outlook(rules)
            ends = []
            for move, state in State(rules).lays():
                place = (state.table, state.pile[0], tuple(state.pile[1:]))
                ends += [end[0] for end in outlook.ends(place)]
            self.assertEqual(outlook.results(), sorted(set(ends)))


class RingsTest(unittest.TestCase):
    def test_shortest_rings(self):
        rings = 0
        for seed in SEEDS:
            rules = made_rules(seed)
            ring = Outlook(rules).ring()
            many = 99
            if ring is not None:
                rings += 1
                self.assertIs(is_ring(rules, ring), True, seed)
                many = len(ring[0]) + len(ring[1])
            try:
                found = reference.shortest_ring_within(rules, min(many, 5), most=700)
            except OverflowError:
                continue
            self.assertEqual(found, many if many <= 5 else None, seed)
        self.assertGreater(rings, 15)

    def test_a_ring_or_a_paper(self):
        for seed in SEEDS:
            rules = made_rules(seed)
            ring = Outlook(rules).ring()
            paper = paper_of(rules)
            self.assertEqual(ring is None, paper is not None, seed)
            if paper is not None:
                self.assertIs(is_paper(rules, paper), True, seed)
            if pays_down(rules):
                self.assertIsNone(ring)
            everywhere = paper_of(rules, everywhere=True)
            if everywhere is not None:
                self.assertIsNotNone(paper)
                self.assertIs(is_paper(rules, everywhere, everywhere=True), True, seed)
                self.assertIs(is_paper(rules, everywhere), True, seed)

    def test_papers_without_a_row_an_end_or_a_fall(self):
        for seed in SEEDS:
            rules = made_rules(seed)
            paper = paper_of(rules)
            if not paper or len(paper) > 40:
                continue
            numbers = Numbers(seed)
            for _ in range(8):
                at = numbers.below(len(paper))
                place, number, ends, calm = paper[at]
                rest = paper[:at] + paper[at + 1:]
                self.assertIs(is_paper(rules, rest), False, seed)
                if ends:
                    out = numbers.below(len(ends))
                    row = (place, number, ends[:out] + ends[out + 1:], calm)
                    self.assertIs(is_paper(rules, rest + [row]), False, seed)
                if calm:
                    out = numbers.below(len(calm))
                    row = (place, number, ends, calm[:out] + calm[out + 1:])
                    self.assertIs(is_paper(rules, rest + [row]), False, seed)
                if number:
                    # Numbers of a paper are told as low as can be.
                    row = (place, number - 1, ends, calm)
                    self.assertIs(is_paper(rules, rest + [row]), False, seed)

    def test_what_is_a_ring(self):
        told = {True: 0, False: 0}
        for seed in range(400):
            rules = made_rules(seed)
            numbers = Numbers(seed)
            state = State(rules)
            moves = []
            while len(moves) < 11 and state.moves():
                # Moves that need no card, and that leave the pile, are taken more often.
                some = [move for move in state.moves() if reference.is_calm(rules, move)]
                move = numbers.one_of(some if some and numbers.chance(2, 3) else state.moves())
                if state.after(move).is_over:
                    move = numbers.one_of(state.moves())
                if state.after(move).is_over:
                    break
                moves.append(move)
                state = state.after(move)
            for end in range(len(moves) + 1):
                for begin in range(end + 1):
                    before, around = moves[:begin], moves[begin:end]
                    wanted = reference.is_ring(rules, before, around)
                    self.assertIs(is_ring(rules, (before, around)), wanted, (seed, before, around))
                    told[wanted] += 1
        self.assertGreater(min(told.values()), 300)

    def test_moves_are_counted_as_they_are_spelled(self):
        for seed in SEEDS:
            rules = made_rules(seed)
            full, calm, begins = both_walks(rules, False)
            self.assertEqual(full.sites, calm.sites)
            for walk in [full, calm]:
                for at in range(0, len(walk.sites), 5):
                    for end, many in walk.fewest[at].items():
                        if many < 200:
                            self.assertEqual(len(spelled_end(walk, at, end, "last")), many)
            found = reached(edges_of(full), begins)
            for at in range(0, len(full.sites), 5):
                self.assertEqual(len(spelled_way(full, found, at, None)), found[at][0])

    def test_altered_rings(self):
        for seed in SEEDS:
            rules = made_rules(seed)
            ring = Outlook(rules).ring()
            if ring is None:
                continue
            before, around = ring
            self.assertIs(is_ring(rules, (before + around, around)), True, seed)
            self.assertIs(is_ring(rules, (before, around * 2)), True, seed)
            self.assertIs(is_ring(rules, (before[:-1], around)), False, seed)
