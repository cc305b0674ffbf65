"""Rules as texts [16]."""

import unittest

from answerpiles.errors import BadDeed, BadRules, BadText, BadWaking
from answerpiles.rules import Deed, Rules, Waking
from answerpiles.texts import read_rules, rules_text

from helps import ODD, raises
from somerules import made_rules

WHOLE = """seats 3 order any
mark m 2 1
mark n 1 0
deed a / opens / answers a b / whose own / asks m 1 n 1 / pays m 2 / standing / goals m n / steps more m, less goal, strike
deed c
deed b / whose other / steps turn
waking done a b own may
waking laid c c next must"""


def whole():
    deeds = [
        Deed("a", opens=True, answers=["b", "a"], whose="own", asks={"n": 1, "m": 1}, pays={"m": 2},
             card=False, goals=["n", "m"], steps=[("more", "m"), ("less", "goal"), ("strike",)]),
        Deed("c"),
        Deed("b", whose="other", steps=[("turn",)]),
    ]
    wakings = [Waking("done", "a", "b", may=True), Waking("laid", "c", "c", by="next")]
    return Rules({"n": 1, "m": 2}, deeds, wakings, seats=3, order="any", start={"m": 1})


class TextsTest(unittest.TestCase):
    def test_whole(self):
        self.assertEqual(rules_text(whole()), WHOLE)
        self.assertEqual(read_rules(WHOLE), whole())

    def test_as_few_words_as_can_be(self):
        rules = Rules({}, [Deed("opens")])
        self.assertEqual(rules_text(rules), "seats 2 order first\ndeed opens")
        self.assertEqual(read_rules("seats 2 order first\ndeed opens"), rules)
        rules = Rules({"deed": 3}, [Deed("mark", opens=True)], [Waking("struck", "mark", "mark")],
                      order="last", start={"deed": 3})
        text = "seats 2 order last\nmark deed 3 3\ndeed mark / opens\nwaking struck mark mark own must"
        self.assertEqual(rules_text(rules), text)
        self.assertEqual(read_rules(text), rules)

    def test_read_back(self):
        for seed in range(300):
            rules = made_rules(seed, 4)
            text = rules_text(rules)
            self.assertEqual(read_rules(text), rules)
            self.assertEqual(rules_text(read_rules(text)), text)
            self.assertEqual(len(text.split("\n")), 1 + len(rules.marks) + len(rules) + len(rules.wakings))

    def test_wrong_rules(self):
        for value in ODD + [Rules, Deed("a")]:
            with raises(self, BadRules, "part", value):
                rules_text(value)

    def test_wrong_texts(self):
        for value in [one for one in ODD if not isinstance(one, str)] + [whole(), [WHOLE], WHOLE.encode()]:
            with raises(self, BadText, "line", 0):
                read_rules(value)

    def test_by_name(self):
        self.assertEqual(read_rules(text=rules_text(rules=whole())), whole())


class LinesTest(unittest.TestCase):
    def bad(self, text, line, cause=None, field=None):
        """The text is wrong in this line, by this error of the package, or by none."""
        with self.assertRaises(BadText) as caught:
            read_rules(text)
        error = caught.exception
        self.assertIs(type(error), BadText)
        self.assertEqual((error.line, type(error.line)), (line, type(line)), text)
        if cause is None:
            self.assertIsNone(error.__cause__, text)
        else:
            self.assertIs(type(error.__cause__), cause, text)
            self.assertEqual(error.__cause__.part, field, text)

    def lines(self, at, new):
        """The whole text with other lines in place of one."""
        lines = WHOLE.split("\n")
        return "\n".join(lines[:at] + new + lines[at + 1:])

    def test_lines_left_out(self):
        self.bad(self.lines(0, []), 0)
        self.bad(self.lines(1, []), None, BadRules, "deeds")
        self.bad(self.lines(2, []), None, BadRules, "deeds")
        self.bad(self.lines(3, []), None, BadRules, "wakings")
        self.bad(self.lines(4, []), None, BadRules, "wakings")
        self.bad(self.lines(5, []), None, BadRules, "deeds")
        self.assertEqual(len(read_rules(self.lines(6, [])).wakings), 1)
        self.assertEqual(len(read_rules(self.lines(7, [])).wakings), 1)
        self.bad("seats 2 order first", None, BadRules, "deeds")
        self.bad("", 0)

    def test_lines_doubled(self):
        lines = WHOLE.split("\n")
        self.bad(self.lines(0, lines[:1] * 2), 1)
        # Two lines of one mark make rules, but their text has one.
        self.bad(self.lines(1, lines[1:2] * 2), None)
        self.bad(self.lines(2, lines[2:3] * 2), None)
        self.bad(self.lines(1, ["mark m 1 0", lines[1]]), None)
        for at in [3, 4, 5]:
            self.bad(self.lines(at, [lines[at]] * 2), None, BadRules, "deeds")
        for at in [6, 7]:
            self.bad(self.lines(at, [lines[at]] * 2), None, BadRules, "wakings")

    def test_lines_in_another_place(self):
        lines = WHOLE.split("\n")
        # Marks out of order make rules with another text.
        self.bad("\n".join([lines[0], lines[2], lines[1]] + lines[3:]), None)
        self.bad("\n".join(lines[1:2] + lines[:1] + lines[2:]), 0)
        self.bad("\n".join(lines[:2] + lines[3:4] + lines[2:3] + lines[4:]), 3)
        self.bad("\n".join(lines[:6] + lines[6:7] + lines[5:6] + lines[7:]), 7)
        self.bad("\n".join(lines[:5] + lines[6:] + lines[5:6]), 7)
        self.bad("\n".join(lines[:1] + lines[6:] + lines[1:6]), 3)
        self.bad("\n".join(lines[:1] + lines[3:] + lines[1:3]), 6)
        # Deeds and wakings stand as they were given: in another order they are other rules.
        other = read_rules("\n".join(lines[:3] + [lines[5], lines[3], lines[4], lines[7], lines[6]]))
        self.assertEqual([deed.word for deed in other.deeds], ["b", "a", "c"])
        self.assertEqual([waking.event for waking in other.wakings], ["laid", "done"])

    def test_first_lines(self):
        for line in ["", "seats", "seats 2", "seats 2 order", "seats 2 order First", "seats 1 order first",
                     "seats 4 order first", "seats 02 order first", "seats two order first",
                     "seats 2 order none", "seat 2 order first", "seats 2 orders first", "seats 2  order first",
                     " seats 2 order first", "seats 2 order first ", "seats 2 order first any",
                     "seats -2 order first", "seats 2.0 order first", "seats True order first",
                     "seats 2 order first\r", "deed a", "mark m 1 0"]:
            self.bad(line + "\ndeed a", 0)

    def test_marks(self):
        for line in ["mark", "mark m", "mark m 1", "mark m 0 0", "mark m 4 0", "mark m 4 4", "mark goal 1 0",
                     "mark M 1 0", "mark  1 0", "mark m 1 -1", "mark m 01 0", "mark m 1 00", "mark m 1 01",
                     "mark m 1 0 0", "mark m 1  0", "mark m 1 0 ", " mark m 1 0", "mark m 1 x", "mark m +1 0",
                     "mark m 1 +0", "mark abcdefghi 1 0", "marks m 1 0", "mark m 1 0.0", "mark m 1 /",
                     "mark m 1 0 / opens", "mark m \u0661 0", "mark m 1 \u00b2", "m 1 0", "", " "]:
            self.bad(f"seats 2 order first\n{line}\ndeed a", 1)

    def test_a_start_greater_than_its_end(self):
        for start in ["2", "3", "4", "10", "1" + "0" * 50]:
            self.bad(f"seats 2 order first\nmark m 1 {start}\ndeed a", None, BadRules, "start")
        # Lines that are none come first.
        self.bad("seats 2 order first\nmark m 1 2\ndeed A", 2, BadDeed, "word")

    def test_marks_that_make_no_rules(self):
        lines = [f"mark {mark} 1 0" for mark in "klmn"]
        self.assertEqual(len(read_rules("\n".join(["seats 2 order first"] + lines[:3] + ["deed a"])).marks), 3)
        self.bad("\n".join(["seats 2 order first"] + lines + ["deed a"]), None, BadRules, "marks")
        self.bad("seats 2 order first\nmark m 3 0\nmark n 3 0\nmark o 1 0\ndeed a", None, BadRules, "marks")

    def deed(self, line, cause=None, field=None):
        """The line is none of a deed."""
        head = "seats 2 order first\nmark m 2 0\nmark n 1 0\ndeed b\n"
        self.bad(head + line, 4, cause, field)
        self.bad(head + line + "\nwaking none", 4, cause, field)

    def test_parts_of_a_deed(self):
        for line in ["deeds a", "deed a / opens / opens", "deed a / answers b / opens",
                     "deed a / steps turn / goals m", "deed a / pays m 1 / asks m 1", "deed a / open",
                     "deed a / whose any", "deed a / whose", "deed a / whose own other", "deed a / answers",
                     "deed a / answers ", "deed a / asks", "deed a / asks ", "deed a / pays", "deed a / goals",
                     "deed a / steps", "deed a / steps ", "deed a / opens ", "deed a / opens a",
                     "deed a / standing m", "deed a / ", "deed a /  opens", "deed a / opens / ",
                     "deed a / asks m", "deed a / asks m 1 n", "deed a / asks m m", "deed a / asks m 01",
                     "deed a / asks m 1 m 1", "deed a / asks m 1 m 2", "deed a / pays m -1", "deed a / asks 1 m",
                     "deed a / asks m  1", "deed a / asks m 1 ", "deed a / opens / deed c", "Deed a",
                     "deed a / mark m 1 0", "deed a / card", "deed a / pays m +1"]:
            self.deed(line)

    def test_parts_that_no_deed_has(self):
        for line, field in [
                ("deed", "word"), ("deed ", "word"), ("deed A", "word"), ("deed a ", "word"),
                ("deed  a", "word"), ("deed a b", "word"), ("deed abcdefghi", "word"), ("deed / opens", "word"),
                ("deed a/ opens", "word"), ("deed a /opens", "word"), ("deed a /", "word"),
                ("deed a / answers b b", "answers"), ("deed a / answers b  a", "answers"),
                ("deed a / answers B", "answers"), ("deed a / answers a b c d e f g", "answers"),
                ("deed a / answers b, a", "answers"), ("deed a / asks m 4", "asks"),
                ("deed a / asks m 0", "asks"), ("deed a / asks goal 1", "asks"),
                ("deed a / asks k 1 l 1 m 1 n 1", "asks"), ("deed a / pays m 4", "pays"),
                ("deed a / goals m m", "goals"), ("deed a / goals goal", "goals"),
                ("deed a / goals k m n", "goals"), ("deed a / steps more", "steps"),
                ("deed a / steps turn, more m", "steps"), ("deed a / steps more m, ", "steps"),
                ("deed a / steps more m,turn", "steps"), ("deed a / steps more m  , turn", "steps"),
                ("deed a / steps more m turn", "steps"), ("deed a / steps more goal", "steps"),
                ("deed a / steps most m", "steps"), ("deed a / steps more m,  turn", "steps"),
                ("deed a / steps more m, more m, more m, more m, turn", "steps")]:
            self.deed(line, BadDeed, field)

    def test_words_in_another_order_make_rules_with_another_text(self):
        head = "seats 2 order first\nmark m 2 0\nmark n 1 0\ndeed b\n"
        for part, other in [("answers a b", "answers b a"), ("asks m 1 n 1", "asks n 1 m 1"),
                            ("pays m 1 n 1", "pays n 1 m 1"), ("goals m n", "goals n m")]:
            read_rules(head + f"deed a / {part}")
            self.bad(head + f"deed a / {other}", None)

    def test_deeds_that_make_no_rules(self):
        head = "seats 2 order first\nmark m 2 0\n"
        self.bad(head + "deed a / answers b", None, BadRules, "deeds")
        self.bad(head + "deed a / goals n", None, BadRules, "deeds")
        self.bad(head + "deed a\ndeed a / opens", None, BadRules, "deeds")
        self.bad(head + "\n".join(f"deed {word}" for word in "abcdefg"), None, BadRules, "deeds")
        self.bad(head + "deed a\nwaking done a b own may", None, BadRules, "wakings")
        rows = [f"waking {event} a a own must" for event in ["laid", "done", "struck", "instead"]]
        self.assertEqual(len(read_rules("\n".join([head + "deed a"] + rows)).wakings), 4)
        self.bad("\n".join([head + "deed a"] + rows + ["waking done a a next may"]), None, BadRules, "wakings")
        self.bad(head + "deed a\nwaking done a a own may\nwaking done a a own must", None, BadRules, "wakings")

    def test_wakings(self):
        head = "seats 2 order first\ndeed a\n"
        for line in ["waking", "waking done a a own", "waking done a a own maybe", "waking done a a may",
                     "waking done a a own may may", "waking done  a own may", "waking done a a own may ",
                     " waking done a a own may", "wakings done a a own may", "waking done a a own May"]:
            cause = (BadWaking, "deed") if line == "waking done  a own may" else ()
            self.bad(head + line, 2, *cause)
        for line, field in [("waking made a a own may", "event"), ("waking done A a own may", "deed"),
                            ("waking done a 1 own must", "call"), ("waking done a a any must", "by")]:
            self.bad(head + line, 2, BadWaking, field)

    def test_line_feeds_and_blanks(self):
        self.bad(WHOLE + "\n", 8)
        self.bad("\n" + WHOLE, 0)
        self.bad(WHOLE.replace("\n", "\n\n", 1), 1)
        self.bad(WHOLE.replace("\n", "\r\n"), 0)
        self.bad(WHOLE + " ", 7)

    def test_a_sign_more_or_less(self):
        lines = WHOLE.split("\n")
        for at in [0, 1, 2, 4, 5, 6, 7]:
            for cut in range(len(lines[at])):
                for new in [lines[at][:cut] + lines[at][cut + 1:], lines[at][:cut] + "-" + lines[at][cut:],
                            lines[at][:cut] + " " + lines[at][cut:]]:
                    text = self.lines(at, [new])
                    try:
                        rules = read_rules(text)
                    except BadText as error:
                        self.assertIn(error.line, [at, None])
                    else:
                        self.assertEqual(rules_text(rules), text)
                    if "-" in new:
                        self.assertRaises(BadText, read_rules, text)

    def test_the_first_line_that_is_none(self):
        text = "seats 2 order first\nmark m 9 0\ndeed A\nwaking x"
        self.bad(text, 1)
        self.bad(text.replace("m 9", "m 3"), 2, BadDeed, "word")
        self.bad(text.replace("m 9", "m 3").replace("A", "a"), 3)
        self.bad("seats 9 order first\nmark m 9 0", 0)
