import random
import re
import unittest

from helpers import all_questions, at_once, layered, small_webs, subsets, with_skips
from steppedtests.console import console
from steppedtests.errors import TestError
from steppedtests.harms import harm, widest_fall
from steppedtests.ladders import Ladder, build
from steppedtests.pupils import Pupil
from steppedtests.sitting import Sitting
from steppedtests.texts import write_web
from steppedtests.walks import mark_of, run_of
from steppedtests.webs import Web

LINE = "web ends 4 start 0 / 1 1 2 3 / 2 #0 #1 / 3 #1 #2 3 / 4 #0 #3"
LADDER = "ladder 3 2 1 1 4 0"
WEB = Web([(1, 1, 2, 3), (2, -1, -2), (3, -2, -3, 3), (4, -1, -4)], 4)
PLAIN = ("right", "wrong", "skip", "undo", "again", "ask", "run", "left", "harm", "widest")
NEED_A_WEB = (*PLAIN, "marks", "mark")
# What tells all of a sitting that the console tells, back to its beginning.
TOLD = ("ask", "run", "left", "mark", "mark 1 3 4", "harm", "widest")
NUMBER = "(?:0|[1-9][0-9]{0,3})"
FORMS = {
    "web": f"web ends {NUMBER} start #?{NUMBER}(?: / {NUMBER}(?: #?{NUMBER}){{2,3}})*",
    "ladder": f"ladder(?: {NUMBER}){{6}}",
    "marks": f"marks(?: {NUMBER}| -[1-9][0-9]{{0,3}})*",
    "mark": f"mark(?: {NUMBER})*",
    **{word: word for word in PLAIN},
}


def line_of(web):
    """The command line for the web."""
    return "web " + write_web(web).replace("\n", " / ")


def web_in(line):
    """The web of a line of the right form, without the package's own reading."""
    head, *rows = line[4:].split(" / ")
    _, ends, _, start = head.split(" ")
    place = (lambda word: -1 - int(word[1:]) if word[0] == "#" else int(word))
    nodes = [(int(row.split(" ")[0]), *map(place, row.split(" ")[1:])) for row in rows]
    return Web(nodes, int(ends), start=place(start))


class Model:
    """What the console must answer, by the words of point 53."""

    def __init__(self):
        self.sitting = None

    def answer(self, line):
        word = line.split(" ")[0]
        if word not in FORMS:
            return "error BadLine"
        if self.sitting is None and word not in ("web", "ladder"):
            return "error NoWeb"
        if not re.fullmatch(FORMS[word], line):
            return "error BadLine"
        try:
            return self.good_answer(word, line)
        except TestError as error:
            return f"error {type(error).__name__}"

    def good_answer(self, word, line):
        sitting = self.sitting
        if word in ("web", "ladder"):
            if word == "web":
                web = web_in(line)
            else:
                words = ("levels", "begin", "up", "down", "count", "most_wrongs")
                web = build(Ladder(**dict(zip(words, map(int, line.split(" ")[1:])))))
            self.sitting = Sitting(web, list(range(web.ends)))
        elif word == "again":
            self.sitting = Sitting(sitting.web, sitting.marks)
        elif word == "marks":
            sitting.marks = [int(part) for part in line.split(" ")[1:]]
        elif word in ("right", "wrong"):
            sitting.answer(word == "right")
        elif word == "skip":
            sitting.skip()
        elif word == "undo":
            return "ok" if sitting.undo() else "nothing"
        else:
            return self.told(word, line)
        return "ok"

    def told(self, word, line):
        sitting = self.sitting
        if word == "ask":
            place = sitting.position
            return f"end {-1 - place}" if place < 0 else str(sitting.web.nodes[place][0])
        if word == "run":
            return " ".join(str(q) + {1: "+", 0: "-", None: "?"}[answer] for q, answer in sitting.run) or "none"
        if word == "left":
            return " ".join(map(str, sitting.left()))
        if word == "mark":
            return str(mark_of(sitting.web, sitting.marks, Pupil([int(part) for part in line.split(" ")[1:]])))
        if word == "harm":
            return "yes" if harm(sitting.web, sitting.marks) else "no"
        return str(widest_fall(sitting.web, sitting.marks)[0])


class Good(unittest.TestCase):
    def check(self, lines, answers):
        self.assertEqual(console(lines), answers)

    def test_no_lines(self):
        self.assertEqual(console([]), [])
        self.assertEqual(console(()), [])

    def test_a_web(self):
        self.check([LINE, "ask", "left", "run"], ["ok", "1", "0 1 2", "none"])
        self.check(["web ends 1 start #0", "ask", "left", "run", "mark", "harm", "widest"],
                   ["ok", "end 0", "0", "none", "0", "no", "0"])
        self.check(["web ends 12 start #11", "ask", "left"], ["ok", "end 11", "11"])
        self.check(["web ends 60 start 0 / 47 #59 #7", "ask", "left", "right", "ask"],
                   ["ok", "47", "7 59", "ok", "end 59"])

    def test_answers_and_skips(self):
        self.check([LINE, "right", "ask", "left", "wrong", "ask", "left", "run"],
                   ["ok", "ok", "2", "0 1", "ok", "end 1", "1", "1+ 2-"])
        self.check([LINE, "skip", "ask", "left", "run", "wrong", "ask", "run"],
                   ["ok", "ok", "4", "0 3", "1?", "ok", "end 3", "1? 4-"])
        self.check([LINE, "wrong", "skip", "right", "run", "left"], ["ok", "ok", "ok", "ok", "1- 3? 4+", "0"])
        self.check([LINE, "right", "skip", "ask"], ["ok", "ok", "error NoSkip", "2"])
        self.check([LINE, "right", "right", "right", "wrong", "skip", "ask", "run"],
                   ["ok", "ok", "ok", "error Ended", "error Ended", "error Ended", "end 0", "1+ 2+"])

    def test_undo(self):
        self.check([LINE, "undo", "wrong", "skip", "undo", "run", "ask", "undo", "undo", "run", "ask"],
                   ["ok", "nothing", "ok", "ok", "ok", "1-", "3", "ok", "nothing", "none", "1"])
        self.check([LINE, "right", "marks 4 3 2 1", "undo", "left", "undo"],
                   ["ok", "ok", "ok", "ok", "2 3 4", "nothing"])

    def test_again(self):
        self.check([LINE, "skip", "right", "marks 9 8 7 -6", "again", "ask", "run", "left", "undo", "mark"],
                   ["ok", "ok", "ok", "ok", "ok", "1", "none", "7 8 9", "nothing", "7"])

    def test_marks(self):
        self.check([LINE, "marks 5 -7 9999 0", "left", "mark", "mark 3", "mark 1 2", "marks -9999 -1 -1 -1", "left"],
                   ["ok", "ok", "-7 5 9999", "9999", "-7", "5", "ok", "-9999 -1"])
        self.check([LINE, "marks", "marks 1 2 3", "marks 1 2 3 4 5", "left"],
                   ["ok"] + ["error BadMarks"] * 3 + ["0 1 2"])
        self.check(["web ends 1 start #0", "marks 10", "left", "marks", "left"],
                   ["ok", "ok", "10", "error BadMarks", "10"])

    def test_mark(self):
        self.check([LINE, "mark", "mark 1", "mark 1 2", "mark 3", "mark 0 3 4 47", "mark 2 1 1 2", "mark 48",
                    "mark 1 2 9999 1"],
                   ["ok", "2", "1", "0", "1", "1", "0", "error BadQuestion", "error BadQuestion"])

    def test_harm_and_widest(self):
        self.check([LINE, "harm", "widest", "marks 9 9 9 9", "harm", "widest", "marks 3 2 1 0", "harm", "widest"],
                   ["ok", "yes", "2", "ok", "no", "0", "ok", "no", "0"])
        self.check(["web ends 2 start 0 / 0 #0 #1", "harm", "widest", "marks -9999 9999", "harm", "widest", "marks 1 0",
                    "harm"], ["ok", "yes", "1", "ok", "yes", "19998", "ok", "no"])

    def test_a_ladder(self):
        self.check([LADDER, "ask", "left", "right", "ask", "right", "right", "wrong", "ask", "run", "widest", "harm"],
                   ["ok", "8", "0 1 2 3 4", "ok", "16", "ok", "ok", "ok", "end 3", "8+ 16+ 17+ 18-",
                    widest_of(Ladder()), harm_of(Ladder())])
        self.check(["ladder 6 6 3 3 6 1", "ask", "wrong", "ask"], ["ok", "40", "ok", "end 0"])

    def test_a_new_web_begins_anew(self):
        self.check([LINE, "marks 9 8 7 6", "right", "web ends 2 start 0 / 5 #0 #1", "ask", "left", "run", "undo"],
                   ["ok", "ok", "ok", "ok", "5", "0 1", "none", "nothing"])
        self.check([LINE, "right", LADDER, "ask", "run", "undo", LINE, "ask", "left"],
                   ["ok", "ok", "ok", "8", "none", "nothing", "ok", "1", "0 1 2"])

    def test_one_call_knows_nothing_of_another(self):
        console([LINE, "right"])
        self.check(["ask", "run"], ["error NoWeb"] * 2)

    def test_the_answers_are_a_list_of_the_callers(self):
        lines = [LINE, "ask", "run"]
        found = console(lines)
        self.assertIsInstance(found, list)
        found.append("more")
        self.assertEqual(lines, [LINE, "ask", "run"])
        self.assertEqual(console(tuple(lines)), ["ok", "1", "none"])


def widest_of(ladder):
    web = build(ladder)
    return str(widest_fall(web, list(range(web.ends)))[0])


def harm_of(ladder):
    web = build(ladder)
    return "yes" if harm(web, list(range(web.ends))) else "no"


class Errors(unittest.TestCase):
    def assert_answer(self, line, answer, before=(LINE, "marks 7 5 3 1", "wrong", "skip")):
        """The line has this answer, and behind an error all is as it was."""
        with self.subTest(line):
            found = console([*before, line, *TOLD, "undo", *TOLD, "undo", *TOLD, "undo"])
            self.assertEqual(found[len(before)], answer)
            wanted = console([*before, *TOLD, "undo", *TOLD, "undo", *TOLD, "undo"])
            self.assertEqual(found[:len(before)] + found[len(before) + 1:], wanted)
            alone = "error NoWeb" if line.split(" ")[0] in NEED_A_WEB else answer
            self.assertEqual(console([line]), [alone])

    def test_no_command(self):
        for line in ("", " ", "  ", "Right", "RIGHT", "rights", "rig", " right", "\tright", "right\t", "right,", "end",
                     "answer", "error", "ok", "quit", "help", "1", "#0", "/", "web:", "ends 1 start #0", "question",
                     "position", "-"):
            self.assert_answer(line, "error BadLine")

    def test_before_the_first_web(self):
        for word in NEED_A_WEB:
            for line in (word, f"{word} ", f"{word} 1", f"{word} x", f"{word}  "):
                self.assertEqual(console([line, line]), ["error NoWeb"] * 2)
                self.assertEqual(console(["web x", line]), ["error BadLine", "error NoWeb"])
                self.assertEqual(console(["ladder 1 2 1 1 1 0", line]), ["error BadLadder", "error NoWeb"])
        self.assertEqual(console(["sip", "web ends 1 start #1", "ask", LINE, "ask"]),
                         ["error BadLine", "error BadStart", "error NoWeb", "ok", "1"])

    def test_plain_commands_with_more_words(self):
        for word in PLAIN:
            for more in (" ", "  ", " 1", " x", " right", f" {word}", " 1 2"):
                self.assert_answer(word + more, "error BadLine")

    def test_numbers_of_other_forms(self):
        for word in ("", "01", "00", "-0", "+1", "--1", "-", "-01", "-00", "12345", "-12345", "1.", "1.0", "a", "1a",
                     "#1", "\u0661", "1\t", "\u00b2", "1/", "/", "1,2"):
            self.assert_answer(f"marks 1 2 3 {word}", "error BadLine")
            self.assert_answer(f"marks {word} 2 3 4", "error BadLine")
            self.assert_answer(f"marks {word}", "error BadLine")
            self.assert_answer(f"mark {word}", "error BadLine")
            self.assert_answer(f"mark 1 {word} 2", "error BadLine")
            self.assert_answer(f"ladder 3 2 1 1 4 {word}", "error BadLine")
            self.assert_answer(f"ladder {word} 2 1 1 4 0", "error BadLine")
            self.assert_answer(f"web ends {word} start #0", "error BadLine")
            self.assert_answer(f"web ends 1 start 0 / {word} #0 #0", "error BadLine")
        for word in ("-1", "-9999", "-0"):
            self.assert_answer(f"mark {word}", "error BadLine")
            self.assert_answer(f"ladder 3 2 1 1 4 {word}", "error BadLine")
            self.assert_answer(f"web ends 1 start 0 / 0 #0 {word}", "error BadLine")
            self.assert_answer(f"web ends 1 start #{word}", "error BadLine")

    def test_blanks_and_missing_words(self):
        for line in ("web", "web ", "web  ", "ladder", "ladder ", "marks ", "marks  ", "mark ", "mark  1", "mark 1  2",
                     "mark 1 ", "marks  1 2 3 4", "marks 1 2 3 4 ", "ladder 3 2 1 1 4", "ladder 3 2 1 1 4 0 0",
                     "ladder  3 2 1 1 4 0", "ladder 3 2 1 1 4 0 ", "ladder 3  1 1 4 0"):
            self.assert_answer(line, "error BadLine")

    def test_webs_of_another_form(self):
        for text in ("ends 1", "ends 1 start", "ends 1 start #0 /", "ends 1 start #0 / ", "/ ends 1 start #0",
                     " / ends 1 start #0", "ends 1 start #0 / / ", "ends 1 start 0 /0 #0 #0", "ends 1 start 0/ 0 #0 #0",
                     "ends 1 start 0 0 #0 #0", "ends 1 start 0 // 0 #0 #0", "ends 1 start 0 /  / 0 #0 #0",
                     "ends 1 start 0 / / 0 #0 #0", "ends 1 start 0 / 0 #0 #0 /", "ends 1 start 0 / 0 #0",
                     "Ends 1 start #0", " ends 1 start #0", "ends 1 start #0 ", "ends 1 start 0 / 0 #0 #0 #0 #0",
                     "ends 1 start 0 /\t0 #0 #0"):
            self.assert_answer(f"web {text}", "error BadLine")

    def test_webs_that_are_refused(self):
        for text, name in (("ends 0 start #0", "BadEnds"), ("ends 61 start #0", "BadEnds"),
                           ("ends 1 start 0", "BadStart"), ("ends 1 start #1", "BadStart"),
                           ("ends 1 start 0 / 48 #0 #0", "BadNode"), ("ends 1 start 0 / 0 0 #0", "BadNode"),
                           ("ends 1 start 0 / 1 1 #0 / 1 #0 #0", "TwiceAsked")):
            self.assert_answer(f"web {text}", f"error {name}")
        for numbers in ("0 1 1 1 1 0", "7 1 1 1 1 0", "3 0 1 1 1 0", "3 4 1 1 1 0", "3 1 0 1 1 0", "3 1 4 1 1 0",
                        "3 1 1 0 1 0", "3 1 1 4 1 0", "3 1 1 1 0 0", "3 1 1 1 7 0", "3 1 1 1 4 5",
                        "9999 9999 9999 9999 9999 9999"):
            self.assert_answer(f"ladder {numbers}", "error BadLadder")

    def test_errors_of_a_sitting(self):
        for line, name in (("marks", "BadMarks"), ("marks 1 2 3", "BadMarks"), ("marks 1 2 3 4 5", "BadMarks"),
                           ("mark 48", "BadQuestion"), ("mark 1 100 2", "BadQuestion"), ("skip", "NoSkip")):
            self.assert_answer(line, f"error {name}")
        for line in ("right", "wrong", "skip"):
            self.assert_answer(line, "error Ended", (LINE, "marks 7 5 3 1", "right", "wrong"))


class Sessions(unittest.TestCase):
    def test_each_web(self):
        for web in small_webs(1, 100):
            lines = [line_of(web), *TOLD]
            lines += ["mark " + " ".join(map(str, rights)) for rights in subsets(all_questions(web)) if rights]
            model = Model()
            self.assertEqual(console(lines), [model.answer(line) for line in lines])

    def test_pupils(self):
        for web in small_webs(2, 60):
            for rights in subsets(all_questions(web)):
                run = run_of(web, Pupil(rights))
                lines = [line_of(web)] + ["right" if answer else "wrong" for _, answer in run] + ["run", "left", "ask"]
                end = str(mark_of(web, range(web.ends), Pupil(rights)))
                text = " ".join(f"{question}{'+' if answer else '-'}" for question, answer in run) or "none"
                self.assertEqual(console(lines), ["ok"] * (1 + len(run)) + [text, end, f"end {end}"])

    def test_random_sessions(self):
        chance = random.Random(3)
        seen = set()
        for web in small_webs(4, 500):
            other = "ladder " + " ".join(str(chance.randrange(4)) for _ in range(6))
            lines = []
            for _ in range(25):
                many = chance.choice([web.ends] * 4 + [3])
                line = chance.choice([
                    *2 * ["right", "wrong", "skip", "undo"], "again", *TOLD, line_of(web), other,
                    "marks " + " ".join(str(chance.randrange(-20, 20)) for _ in range(many)),
                    "mark " + " ".join(str(chance.randrange(49)) for _ in range(3))])
                if chance.randrange(8) == 0:
                    at = chance.randrange(len(line) + 1)
                    sign = chance.choice(["", " ", "0", "-", "#", "s", "/"])
                    line = line[:at] + sign + line[at + chance.randrange(2):]
                lines.append(line)
            model = Model()
            wanted = [model.answer(line) for line in lines]
            kept = list(lines)
            self.assertEqual(console(lines), wanted)
            self.assertEqual(lines, kept)
            seen |= {answer for answer in wanted if answer.startswith("error")}
        names = "BadLine NoWeb BadMarks BadQuestion BadLadder Ended NoSkip".split()
        self.assertLessEqual({f"error {name}" for name in names}, seen)

    def test_many_nodes(self):
        for web in (Web(with_skips(layered(20, 10, 60)), 60), Web(layered(48, 4, 60), 60)):
            with at_once(20):
                found = console([line_of(web), *["right"] * 10, "run", "left", "harm", "widest", "undo", "mark 1 2 3"])
                self.assertEqual(found[:11], ["ok"] * 11)
                self.assertFalse([answer for answer in found if answer.startswith("error")])


if __name__ == "__main__":
    unittest.main()
