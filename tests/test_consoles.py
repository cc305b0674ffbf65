"""Consoles: sessions that are led by lines [23]."""

import unittest

from answerpiles.consoles import Console
from answerpiles.errors import BadArgument, BadCommand, BadRules, NothingLeft, NotThere, TooMany
from answerpiles.idle import needless, unlaid, unwoken, vain_mays
from answerpiles.mends import card_sets
from answerpiles.orders import readings, where_order_counts
from answerpiles.plays import play_text
from answerpiles.rings import Outlook
from answerpiles.rules import Deed, Rules, Waking
from answerpiles.sessions import Session
from answerpiles.slips import slip_play, slips

from helpbig import too_many
from helps import ODD, raises
from somerules import Numbers, lively_rules, made_rules, ordered_rules
from test_orders import two_calls
from test_rings import striking

QUESTIONS = ["deeds", "ends", "can", "results", "ring", "readings", "events", "slips", "idle", "needless", "cards"]


def slipping():
    """Rules with marks by which things slip, both by calls and by copies."""
    deeds = [Deed("a", opens=True), Deed("b"), Deed("dup", answers=["a"], steps=[("again",)]),
             Deed("hit", answers=["a"], steps=[("strike",)])]
    return Rules({"m": 1}, deeds, [Waking("laid", "a", "b", may=True)])


def table_text(table):
    return ",".join(str(count) for count in table) or "-"


def wanted_lines(rules, question):
    """What a question asks for, by what the functions tell."""
    ring = Outlook(rules).ring()
    if question == "ring" and ring is not None:
        return play_text(ring[0]).split("\n") + ["round"] + play_text(ring[1]).split("\n")
    return {
        "deeds": lambda: rules.words(),
        "ends": lambda: ["yes" if ring is None else "no"],
        "can": lambda: ["no" if Outlook(rules).never() else "yes"],
        "results": lambda: [table_text(table) for table in Outlook(rules).results()],
        "ring": lambda: ["none"],
        "readings": lambda: [" ".join([order] + [table_text(table) for table in tables])
                             for order, tables in readings(rules).items()],
        "events": lambda: [" ".join([event, word, table_text(table)])
                           for event, word, table in where_order_counts(rules)],
        "slips": lambda: [" ".join(slip) for slip in slips(rules)],
        "idle": lambda: [f"unlaid {word}" for word in unlaid(rules)] +
                        [f"unwoken {number}" for number in unwoken(rules)] +
                        [f"vain {number}" for number in vain_mays(rules)],
        "needless": lambda: [f"{kind} {which}" for kind, which in needless(rules)],
        "cards": lambda: [" ".join(words) or "-" for words in card_sets(rules)],
    }[question]()


class QuestionsTest(unittest.TestCase):
    def test_two_calls(self):
        console = Console(two_calls())
        wanted = {
            "deeds": ["a", "down", "up"], "ends": ["yes"], "can": ["yes"], "results": ["1"], "ring": ["none"],
            "readings": ["any 0 1", "first 1", "last 0"], "events": ["done a 0", "done a 1"], "slips": [],
            "idle": ["unlaid down", "unlaid up"], "needless": ["deed down", "waking 1"], "cards": ["-"],
            "slip a call struck": ["none"],
        }
        for line, lines in wanted.items():
            self.assertEqual(console.execute(line), lines, line)
            self.assertEqual(console(line), lines, line)
        self.assertEqual((console.rules, len(console)), (two_calls(), 0))

    def test_rules_cannot_be_set(self):
        console = Console(two_calls())
        with self.assertRaises(AttributeError):
            console.rules = slipping()
        self.assertEqual((console.rules, len(console)), (two_calls(), 0))

    def test_a_ring(self):
        console = Console(striking(False))
        ring = console("ring")
        self.assertEqual(ring.count("round"), 1)
        at = ring.index("round")
        self.assertEqual(ring[0], "lay 0 a -")
        self.assertIn("done steps / 0:-", ring[at + 1:])
        self.assertEqual((console("ends"), console("can"), console("cards")), (["no"], ["yes"], ["hit"]))

    def test_no_marks_and_no_wakings(self):
        console = Console(Rules({}, [Deed("b", opens=True, card=False), Deed("a", answers=["a"])]))
        wanted = {
            "results": ["-"], "readings": ["any -", "first -", "last -"], "events": [], "idle": ["unlaid a"],
            "needless": ["deed a"], "cards": ["-"], "ring": ["none"], "slips": [], "deeds": ["a", "b"],
        }
        for line, lines in wanted.items():
            self.assertEqual(console(line), lines, line)
        none = Console(Rules({}, [Deed("a")]))
        self.assertEqual(none("results"), [])
        self.assertEqual(none("readings"), ["any", "first", "last"])
        self.assertEqual((none("ends"), none("can")), (["yes"], ["yes"]))

    def test_several_marks_and_tables(self):
        deeds = [Deed("a", opens=True, goals=["n", "k"], steps=[("more", "goal")]), Deed("b"), Deed("c")]
        console = Console(Rules({"n": 1, "m": 1, "k": 1}, deeds,
                                [Waking("done", "b", "c"), Waking("done", "a", "c", may=True)], start={"m": 1}))
        self.assertEqual(console("results"), ["0,1,1", "1,1,0"])
        self.assertEqual(console("readings"), [f"{order} 0,1,1 1,1,0" for order in ["any", "first", "last"]])
        self.assertEqual(console("idle"), ["unlaid b", "unlaid c", "unwoken 0", "vain 1"])
        self.assertEqual(console("needless"), ["deed b", "deed c", "waking 0", "waking 1"])

    def test_no_end(self):
        console = Console(Rules({}, [Deed("a", opens=True)], [Waking("instead", "a", "a")]))
        self.assertEqual((console("ends"), console("can"), console("cards")), (["no"], ["no"], []))
        self.assertEqual(console("ring"), ["lay 0 a -", "round", "done instead / 0:-"])

    def test_from_the_start(self):
        rules = Rules({"m": 1}, [Deed("a", opens=True), Deed("b", opens=True, asks={"m": 1})], [Waking("done", "b", "a")])
        self.assertEqual(Console(rules)("idle"), ["unlaid b", "unwoken 0"])
        self.assertEqual(Console(rules.changed(start={"m": 1}))("idle"), [])

    def test_slips(self):
        console = Console(slipping())
        self.assertEqual(console("slips"), ["a call struck", "a copy struck"])
        play = console("slip a call struck")
        self.assertEqual(play[:2], ["lay 0 a - / 0:-", "done steps"])
        self.assertEqual("\n".join(play), play_text(slip_play(slipping(), "a", "call", "struck")))
        self.assertEqual(len(console("slip a copy struck")), 6)
        self.assertEqual(console("slip hit copy instead"), ["none"])

    def test_what_is_told_goes_together(self):
        rings = 0
        for seed in range(60):
            for rules in [made_rules(seed, 4), lively_rules(seed), ordered_rules(seed)]:
                console = Console(rules)
                for question in QUESTIONS:
                    lines = console(question)
                    self.assertEqual(lines, wanted_lines(rules, question), (seed, question))
                    self.assertTrue(all(isinstance(line, str) for line in lines))
                rings += "round" in console("ring")
                word = rules.words()[-1]
                play = slip_play(rules, word, "call", "struck")
                wanted = ["none"] if play is None else play_text(play).split("\n")
                self.assertEqual(console(f"slip {word} call struck"), wanted)
                self.assertEqual((console.rules, len(console)), (rules, 0))
        self.assertGreater(rings, 20)

    def test_too_many_places(self):
        console = Console(too_many())
        for question in QUESTIONS[1:] + ["slip a call struck"]:
            if question != "events":
                with raises(self, TooMany, "most", 2000):
                    console(question)
        self.assertEqual(console("deeds"), ["a", "x", "y", "z"])
        self.assertEqual(console("order last"), ["1"])


class EditsTest(unittest.TestCase):
    def test_edits(self):
        console = Console(two_calls())
        self.assertEqual(console("order last"), ["1"])
        self.assertEqual(console("results"), ["0"])
        self.assertEqual(console.execute("hush 0"), ["2"])
        self.assertEqual(console("order last"), ["3"])
        self.assertEqual(console("strike up"), ["4"])
        self.assertEqual(console("deeds"), ["a", "down"])
        self.assertEqual(len(console), 4)
        wanted = two_calls().changed(order="last", deeds=[two_calls().deeds[0], two_calls().deeds[2]],
                                     wakings=[Waking("done", "a", "down")])
        self.assertEqual(console.rules, wanted)
        for left in ["3", "2", "1", "0"]:
            self.assertEqual(console("undo"), [left])
        self.assertEqual((console.rules, len(console)), (two_calls(), 0))

    def test_edits_that_cannot_be_made(self):
        console = Console(two_calls())
        for line, kind, field, value in [
            ("undo", NothingLeft, "args", ()), ("order middle", BadArgument, "value", "middle"),
            ("strike b", NotThere, "word", "b"), ("strike up", BadRules, "part", "wakings"),
            ("strike a", BadRules, "part", "wakings"), ("hush 2", BadArgument, "value", 2),
            ("hush 9", BadArgument, "value", 9), ("strike A", NotThere, "word", "A"),
            ("order First", BadArgument, "value", "First"),
        ]:
            for call in [console, console.execute]:
                with self.assertRaises(BadCommand) as caught:
                    call(line)
                self.assertEqual(caught.exception.command, line)
                cause = caught.exception.__cause__
                self.assertIs(type(cause), kind)
                self.assertEqual(getattr(cause, field), value)
                self.assertEqual((console.rules, len(console)), (two_calls(), 0))

    def test_wrong_lines(self):
        console = Console(slipping())
        lines = QUESTIONS + ["slip a call struck", "undo", "order any", "strike b", "hush 0"]
        wrong = ["", " ", "\n", "-", "deed", "moves", "slip", "order", "strike", "hush", "slip a", "slip a call",
                 "slip a call struck x", "slip b x struck", "slip x call struck", "slip a call strike",
                 "slip a struck call", "hush 00", "hush 10", "hush 01", "hush -1", "hush +0", "hush x", "hush a",
                 "hush \u0660", "hush \u00b2", "undo 1", "order any any", "strike b hit", "wake done a b", "reading any",
                 "order any first", "deeds a", "undo undo", "hush 0 0"]
        for line in lines:
            wrong += [line + " ", " " + line, line + "\n", line.replace(" ", "  "), line.capitalize(), line.upper(),
                      line + " x", line.replace(" ", ""), line.replace(" ", "\t"), line + "\r", "x " + line]
        for value in wrong + [line for line in ODD if line not in lines] + [line.encode() for line in lines]:
            if value in lines:
                continue
            for call in [console, console.execute]:
                with raises(self, BadCommand, "command", value):
                    call(value)
            self.assertEqual((console.rules, len(console)), (slipping(), 0))

    def test_hush_takes_one_figure(self):
        console = Console(two_calls())
        for line in ["hush 01", "hush 00", "hush 10", "hush 1 ", "hush ", "hush", "hush 1.", "hush \u0661"]:
            with raises(self, BadCommand, "command", line):
                console(line)
            self.assertEqual((console.rules, len(console)), (two_calls(), 0))
        self.assertEqual(console("hush 1"), ["1"])

    def test_wrong_rules(self):
        for value in ODD + [Rules, Session(slipping())]:
            with raises(self, BadRules, "part", value):
                Console(value)

    def test_as_a_session(self):
        for seed in range(80):
            numbers = Numbers(seed)
            rules = lively_rules(seed)
            console, session = Console(rules), Session(rules)
            for _ in range(8):
                line, edit = numbers.one_of([
                    ("undo", session.undo), ("hush 0", lambda: session.hush(0)), ("hush 1", lambda: session.hush(1)),
                    ("strike b", lambda: session.strike("b")), ("strike c", lambda: session.strike("c")),
                    ("order any", lambda: setattr(session, "reading", "any")),
                    ("order last", lambda: setattr(session, "reading", "last")),
                ])
                try:
                    edit()
                except (BadArgument, BadRules, NothingLeft, NotThere) as why:
                    with self.assertRaises(BadCommand) as caught:
                        console(line)
                    self.assertIs(type(caught.exception.__cause__), type(why))
                else:
                    self.assertEqual(console(line), [str(len(session))])
                self.assertEqual((console.rules, len(console)), (session.rules, len(session)))

    def test_by_name(self):
        console = Console(rules=two_calls())
        self.assertEqual(console.execute(line="results"), console(line="results"))

    def test_caller_may_change_what_is_told(self):
        console = Console(slipping())
        for question in QUESTIONS + ["slip a call struck"]:
            wanted = list(console(question))
            console(question).append("x")
            self.assertEqual(console(question), wanted)
        console.rules.deeds.clear()
        self.assertEqual(console.rules, slipping())


if __name__ == "__main__":
    unittest.main()
