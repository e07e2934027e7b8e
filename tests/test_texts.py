import random
import re
import unittest

from helpers import layered, small_webs, with_skips
from steppedtests.errors import BadEnds, BadLine, BadNode, BadStart, TwiceAsked
from steppedtests.ladders import Ladder, build
from steppedtests.texts import read_run, read_web, write_run, write_web
from steppedtests.webs import Web

NUMBER = r"(?:0|[1-9][0-9]{0,3})"
HEAD = re.compile(f"ends {NUMBER} start #?{NUMBER}")
NODE = re.compile(f"{NUMBER}(?: #?{NUMBER}){{2,3}}")
STEP = re.compile(r"(?:[0-9]|[1-3][0-9]|4[0-7])[+-]")
WRONG_NUMBERS = ("", "+1", "-1", "-0", "01", "00", "007", "12345", "10000", "a", "1a", "a1", "1.0", "1_0", "0x1", " ",
                 "\t1", "1\t", "1\r", "\u0663", "\u00b2", "\u2460", "\uff11", "1#", "##1", "None")
WRONG_ENDS = ("#", "# 1", "#-1", "#+1", "#01", "#00", "#12345", "#a", "#1a", "#\u0663", "#1#")


def first_bad_line(text):
    """The number of the first line of another form, or None."""
    for number, line in enumerate(text.split("\n"), 1):
        if not (HEAD if number == 1 else NODE).fullmatch(line):
            return number
    return None


class Webs(unittest.TestCase):
    def test_by_hand(self):
        for web, text in (
            (Web([], 1), "ends 1 start #0"),
            (Web([], 60, start=-60), "ends 60 start #59"),
            (Web([(1, 1, 2), (2, -1, -2), (2, -3, -4)], 4), "ends 4 start 0\n1 1 2\n2 #0 #1\n2 #2 #3"),
            (Web([(47, -1, -1, 1), (0, -2, -1)], 2, start=1), "ends 2 start 1\n47 #0 #0 1\n0 #1 #0"),
            (Web([(0, -1, -1)], 12, start=-11), "ends 12 start #10\n0 #0 #0"),
        ):
            self.assertEqual(write_web(web), text)
            found = read_web(text)
            self.assertIsInstance(found, Web)
            self.assertEqual(found, web)
            self.assertTrue(all(isinstance(node, tuple) for node in found.nodes))

    def test_there_and_back(self):
        webs = [*small_webs(1, 200), Web(layered(10, 20, 60), 60), Web(with_skips(layered(48, 4, 7)), 7, start=5),
                build(Ladder(levels=6, count=6))]
        for web in webs:
            text = write_web(web)
            self.assertIsNone(first_bad_line(text))
            self.assertEqual(read_web(text), web)
            self.assertEqual(write_web(read_web(text)), text)


class WrongWebs(unittest.TestCase):
    def assert_bad(self, text, line):
        with self.subTest(text), self.assertRaises(BadLine) as caught:
            read_web(text)
        self.assertEqual(caught.exception.line, line)

    def test_first_line(self):
        for line in ("", " ", "ends", "ends 1", "ends 1 start", "ends 1 start #0 ", " ends 1 start #0",
                     "ends  1 start #0", "ends 1 start  #0", "ends 1  start #0", "ends 1 start #0 #0",
                     "ends 1 start 0 1", "end 1 start #0", "Ends 1 start #0", "ends 1 begin #0", "ends 1 Start #0",
                     "start #0 ends 1", "1 start #0", "ends start #0",
                     "ends #1 start #0", "ends 1 start ##0", "1 #0 #0", "ends\t1 start #0", "ends 1 start #0\r"):
            self.assert_bad(line, 1)
            self.assert_bad(line + "\n0 #0 #0", 1)
            self.assert_bad(line + "\nwrong too", 1)

    def test_numbers_of_the_first_line(self):
        for word in WRONG_NUMBERS:
            self.assert_bad(f"ends {word} start #0", 1)
            self.assert_bad(f"ends 1 start {word}", 1)
        for word in WRONG_ENDS:
            self.assert_bad(f"ends 1 start {word}", 1)
            self.assert_bad(f"ends {word} start #0", 1)

    def test_node_lines(self):
        for line in ("", " ", "0", "0 #0", "0 #0 #0 #0 #0", "0 #0 #0 ", " 0 #0 #0", "0  #0 #0", "0 #0  #0", "#0 #0 #0",
                     "ends 1 start #0", "0 #0 #0 x", "0,#0,#0", "0 #0 #0 #", "0\t#0\t#0"):
            self.assert_bad(f"ends 1 start #0\n{line}", 2)
            self.assert_bad(f"ends 1 start #0\n0 #0 #0\n1 #0 #0 #0\n{line}", 4)
            self.assert_bad(f"ends 1 start #0\n0 #0 #0\n{line}\n1 #0 #0", 3)

    def test_numbers_of_node_lines(self):
        for word in (*WRONG_NUMBERS, *WRONG_ENDS):
            for line in (f"{word} #0 #0", f"0 {word} #0", f"0 #0 {word}", f"0 #0 #0 {word}", f"0 {word} #0 #0"):
                self.assert_bad(f"ends 1 start 0\n{line}", 2)

    def test_newlines_too_many(self):
        self.assert_bad("ends 1 start #0\n", 2)
        self.assert_bad("\nends 1 start #0", 1)
        self.assert_bad("ends 2 start 0\n0 #0 #1\n", 3)
        self.assert_bad("ends 2 start 0\n\n0 #0 #1", 2)
        self.assert_bad("ends 2 start 0\r\n0 #0 #1", 1)

    def test_the_first_wrong_line_counts(self):
        self.assert_bad("ends 1 start #0\n0 #0\n0 #0 #0\nx", 2)
        self.assert_bad("ends 1 start #0\n0 #0 #0\nx\n0 #0", 3)
        # The first line is of the right form, though no web has so many ends.
        self.assert_bad("ends 0 start #0\n0 #0\nx", 2)
        self.assert_bad("ends 99 start 7\n0 #0 #0\n60 0 0 0\n+1 #0 #0", 4)

    def test_webs_that_are_refused(self):
        for text, error, value in (
            ("ends 0 start #0", BadEnds, 0), ("ends 61 start #0", BadEnds, 61), ("ends 9999 start 9999", BadEnds, 9999),
            ("ends 1 start 0", BadStart, 0), ("ends 1 start #1", BadStart, -2),
            ("ends 1 start #9999", BadStart, -10000),
            ("ends 1 start 1\n0 #0 #0", BadStart, 1),
            ("ends 1 start 0\n48 #0 #0", BadNode, 0), ("ends 1 start 0\n0 #0 #1", BadNode, 0),
            ("ends 1 start 0\n0 #0 #0\n1 1 #0", BadNode, 1), ("ends 1 start 9\n9999 #0 #0", BadNode, 0),
            ("ends 1 start 0\n0 1 #0\n0 #0 #0", TwiceAsked, 0), ("ends 1 start 1\n0 #0 #0 1\n0 #0 #0", TwiceAsked, 0),
        ):
            with self.subTest(text), self.assertRaises(error) as caught:
                read_web(text)
            self.assertEqual(list(vars(caught.exception).values()), [value])

    def test_random_changes(self):
        chance = random.Random(2)
        good = bad = 0
        for web in small_webs(3, 1500):
            text = write_web(web)
            at = chance.randrange(len(text) + 1)
            cut = at + chance.randrange(3)
            text = text[:at] + chance.choice(["", "", " ", "0", "1", "#", "\n", "-", "+", "\u0663", "x"]) + text[cut:]
            line = first_bad_line(text)
            if line is not None:
                bad += 1
                self.assert_bad(text, line)
                continue
            good += 1
            try:
                self.assertEqual(write_web(read_web(text)), text)
            except (BadEnds, BadNode, BadStart, TwiceAsked):
                pass
        self.assertTrue(good > 100 and bad > 500)


class Runs(unittest.TestCase):
    def test_by_hand(self):
        for run, text in (((), ""), (((5, 1),), "5+"), (((0, 0), (47, 1), (10, 0)), "0- 47+ 10-"),
                          (((5, 1), (5, 0), (5, 1)), "5+ 5- 5+"), (((7, 1), (7, 1)), "7+ 7+")):
            self.assertEqual(write_run(run), text)
            self.assertEqual(write_run([list(step) for step in run]), text)
            found = read_run(text)
            self.assertIsInstance(found, tuple)
            self.assertEqual(found, run)
            self.assertTrue(all(isinstance(step, tuple) for step in found))

    def test_there_and_back(self):
        chance = random.Random(4)
        for _ in range(200):
            run = tuple((chance.randrange(48), chance.randrange(2)) for _ in range(chance.randrange(20)))
            self.assertEqual(read_run(write_run(run)), run)

    def assert_bad(self, text):
        with self.subTest(text), self.assertRaises(BadLine) as caught:
            read_run(text)
        self.assertEqual(caught.exception.line, 1)

    def test_other_texts(self):
        for word in ("48+", "100-", "9999+", "10000+", "01+", "00+", "5", "+", "-", "5++", "5+-", "+5", "+5+", "-5+",
                     "5?", "5*", "5 +", "a+", "5a+", "\u0665+", "\u00b2-", "5\u2212", "5\n", "\n5+", "5+\n", "5+\r",
                     "5+,", "5+\t6-", "#5+"):
            for text in (word, f"{word} 5+", f"0- {word}", f"1+ {word} 2-"):
                self.assert_bad(text)
        for text in (" ", "5+ ", " 5+", "5+  6-", "5+ 6- ", "  ", "5+\n6-", "5+6-", "5+,6-"):
            self.assert_bad(text)

    def test_each_question(self):
        for number in range(60):
            for sign, answer in (("+", 1), ("-", 0)):
                if number < 48:
                    self.assertEqual(read_run(f"{number}{sign}"), ((number, answer),))
                else:
                    self.assert_bad(f"{number}{sign}")

    def test_random_changes(self):
        chance = random.Random(5)
        good = bad = 0
        for _ in range(1000):
            text = write_run([(chance.randrange(48), chance.randrange(2)) for _ in range(chance.randrange(4))])
            at = chance.randrange(len(text) + 1)
            text = text[:at] + chance.choice(["", "", " ", "4", "0", "+", "-", "\n"]) + text[at + chance.randrange(3):]
            if text == "" or all(STEP.fullmatch(word) for word in text.split(" ")):
                good += 1
                self.assertEqual(write_run(read_run(text)), text)
            else:
                bad += 1
                self.assert_bad(text)
        self.assertTrue(good > 100 and bad > 300)


if __name__ == "__main__":
    unittest.main()
