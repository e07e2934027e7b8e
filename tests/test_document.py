"""What the document promises of the whole program: its examples, and what holds for all functions."""

import ast
import copy
import doctest
import inspect
import unittest

from steppedtests import (chances, classes, comparing, console, errors, guesses, harms, joint, ladders, lines, papers,
                          polynomials, pupils, ratios, scales, sitting, texts, toldback, walks, webs)
from steppedtests.harms import Answer, harmless, splits
from steppedtests.joint import Joint
from steppedtests.ladders import Ladder
from steppedtests.polynomials import Polynomial
from steppedtests.pupils import Pupil
from steppedtests.ratios import Ratio
from steppedtests.sitting import Sitting
from steppedtests.webs import Web

MODULES = (chances, classes, comparing, console, errors, guesses, harms, joint, ladders, lines, papers, polynomials,
           pupils, ratios, scales, sitting, texts, toldback, walks, webs)

EXAMPLES = """
>>> from steppedtests.webs import Web
>>> from steppedtests.joint import Joint
>>> from steppedtests.harms import splits
>>> web = Web([(1, 1, 2), (2, -1, -2), (2, -3, -4)], 4)
>>> Joint((web, web), splits(web)).finals()
((1, 0), (2, 0), (3, 1), (3, 2))

>>> from steppedtests.webs import Web
>>> from steppedtests.pupils import Pupil
>>> web = Web([(1, 1, 2), (2, -1, -2), (3, -3, -4)], 4)
>>> marks = [3, 1, 2, 0]
>>> from steppedtests.scales import fullest_scale, rests
>>> [rests(web), fullest_scale(web)]
[((3,), (2,), (1,), (0,)), (3, 2, 1, 0)]

>>> from steppedtests.ratios import Ratio
>>> from steppedtests.chances import mean
>>> half = Ratio(1, 2)
>>> str(mean(web, marks, {1: half, 2: half, 3: half}))
'3/2'

>>> from steppedtests.guesses import guess
>>> told = guess(Web([(5, -1, -2, -3)], 3), [2, -1, 0], 0, Pupil([]))
>>> [told[0], str(told[1])]
['above', '1/3']
"""

NODES = ((1, 1, 2, 3), (2, -1, -2), (3, -2, -3, 3), (4, -1, -4))
WEB = Web(NODES, 4)
MARKS = (3, 1, 2, 0)
HALVES = {question: Ratio(1, 2) for question in (1, 2, 3)}
THIRDS = {question: Ratio(1, 3) for question in (1, 2, 3)}
TREE = ("ask", 1, ("class", 5), ("ask", 2, ("class", 6), ("class", 7)))
TABLE = (((0, 1, 2), 2), ((1, 2), 1), ((0, 2), 1))
GROUP = (Pupil([1]), Pupil([2]), Pupil([]))
STATE = ((0, 0), ())
PAPER = Joint((WEB, WEB), splits(WEB)).states()
RUN = ((8, 1), (16, 0), (9, 0), (0, 0))
DEEDS = (("answer", False), ("skip",), ("undo",), ("marks", MARKS))


def kept(value):
    """A value that is passed as it is, also where lists are tried: a paper, a tree or a table."""
    return (kept, value)


# Each function of the interface with arguments; tuples stand wherever they are listed.
CALLS = (
    (Web, NODES, 4), (Pupil, (1, 2, 2)), (Polynomial, (1, Ratio(1, 2), 0)), (Sitting, WEB, MARKS),
    (Joint, (WEB, WEB), ((0, 0), (1, -2))), (Joint((WEB, WEB), ((0, 0),)).trail, (1, 1)),
    (walks.run_of, WEB, Pupil([1])), (walks.end_of, WEB, Pupil([1])), (walks.mark_of, WEB, MARKS, Pupil([1])),
    (ladders.ladder_run, Ladder(), Pupil([8])), (ladders.build, Ladder()),
    (papers.covers, kept(STATE), kept(STATE)),
    (papers.accepts, Joint((WEB, WEB), splits(WEB)), kept(PAPER), harmless((0, 0, 0, 0))),
    (harms.splits, WEB), (harms.harmless, MARKS), (harms.harm, WEB, MARKS), (harms.harm, WEB, (1, 1, 1, 1)),
    (harms.greatest_fall, WEB, MARKS), (harms.greatest_rise, WEB, MARKS), (harms.widest_fall, WEB, MARKS),
    (comparing.alike, WEB, MARKS, WEB, (3, 1, 1, 0)), (comparing.alike, WEB, MARKS, WEB, MARKS),
    (comparing.widest_difference, WEB, MARKS, WEB, (3, 1, 1, 0)), (comparing.matters, WEB, MARKS, 1),
    (comparing.without, WEB, 1),
    (scales.arrows, WEB), (scales.rests, WEB), (scales.is_fair, WEB, MARKS), (scales.fullest_scale, WEB),
    (scales.parting_scale, WEB, 1, 0), (scales.ring, WEB, 1, 1),
    (scales.ring_holds, WEB, ((Pupil([]), 47), (Pupil([]), 46))),
    (chances.mean, WEB, MARKS, HALVES), (chances.mean_length, WEB, HALVES), (chances.slope, WEB, MARKS, HALVES, 1),
    (chances.corner, WEB, Pupil([1])),
    (polynomials.count_roots, Polynomial((-2, 0, 1)), 0, Ratio(3, 2)),
    (polynomials.negative_at, Polynomial((-2, 0, 1)), 0, Ratio(3, 2)),
    (lines.line_mean, WEB, MARKS, HALVES, THIRDS), (lines.falls_along, WEB, MARKS, HALVES, THIRDS),
    (guesses.guess, WEB, MARKS, 0, Pupil([1])), (guesses.guesses, WEB, MARKS, 0),
    (classes.depth, kept(TREE)), (classes.tells, GROUP, (5, 6, 7), (1, 2), kept(TREE)),
    (classes.least_questions, GROUP, (5, 6, 7), (1, 2)),
    (classes.bound_holds, GROUP, (5, 6, 7), (1, 2), kept(TABLE), 2),
    (texts.write_web, WEB), (texts.read_web, "ends 1 start #0"), (texts.write_run, RUN), (texts.read_run, "5+ 6-"),
    (sitting.preview, Sitting(WEB, MARKS), DEEDS), (console.console, ("web ends 1 start #0", "ask")),
)


def told(value):
    """The value with its kind at each place, so that also objects without == are compared."""
    if isinstance(value, (tuple, list)):
        return (value.__class__.__name__, [told(part) for part in value])
    if isinstance(value, dict):
        return ("dict", [(told(key), told(part)) for key, part in value.items()])
    if value is None or isinstance(value, (bool, int, str)):
        return (value.__class__.__name__, value)
    return (value.__class__.__name__, [(word, told(part)) for word, part in vars(value).items() if word != "_ways"])


def as_tuples(value):
    return value[1] if isinstance(value, tuple) and value and value[0] is kept else value


def as_lists(value):
    if isinstance(value, tuple):
        return value[1] if value and value[0] is kept else [as_lists(part) for part in value]
    return value


def changed(value):
    """Change a list or a dict, and all that it holds, as far as they can be changed."""
    if isinstance(value, list):
        for part in value:
            changed(part)
        value.append(value[0] if value else 0)
        value.reverse()
    if isinstance(value, dict):
        value.clear()


class Examples(unittest.TestCase):
    def test_they_hold(self):
        test = doctest.DocTestParser().get_doctest(EXAMPLES, {}, "examples", None, 0)
        result = doctest.DocTestRunner().run(test)
        self.assertGreater(result.attempted, 15)
        self.assertEqual(result.failed, 0)


class AllFunctions(unittest.TestCase):
    def test_each_function_of_the_interface_is_called_here(self):
        called = {call[0].__name__ for call in CALLS}
        for module in MODULES:
            if module is not errors:
                for name, value in vars(module).items():
                    public = getattr(value, "__module__", None) == module.__name__ and not name.startswith("_")
                    if public and inspect.isfunction(value) and name not in INTERNAL | SPECIAL:
                        self.assertIn(name, called)

    def test_arguments_are_not_changed(self):
        for function, *given in CALLS:
            for kind in (as_tuples, as_lists):
                values = [kind(value) for value in given]
                before = told(copy.deepcopy(values))
                function(*values)
                with self.subTest((function, kind)):
                    self.assertEqual(told(values), before)

    def test_lists_for_tuples(self):
        for function, *given in CALLS:
            found = function(*[as_tuples(value) for value in given])
            with self.subTest(function):
                self.assertEqual(told(function(*[as_lists(value) for value in given])), told(found))

    def test_later_changes_of_arguments(self):
        for function, *given in CALLS:
            values = [as_lists(value) for value in given]
            found = function(*values)
            before = told(copy.deepcopy(found))
            for value in values:
                if isinstance(value, list):
                    changed(value)
            with self.subTest(function):
                self.assertEqual(told(found), before)

    def test_results_belong_to_the_caller(self):
        for function, *given in CALLS:
            values = [as_tuples(value) for value in given]
            found = function(*values)
            before = told(copy.deepcopy(found))
            changed(found)
            with self.subTest(function):
                self.assertEqual(told(function(*values)), before)

    def test_joint_walks_and_ladders_belong_to_nobody_else(self):
        pair, starts = [WEB, WEB], [[0, 0], [1, -2]]
        walk = Joint(pair, starts)
        states = walk.states()
        changed(pair)
        changed(starts)
        self.assertEqual((walk.webs, walk.starts, walk.states()), ((WEB, WEB), ((0, 0), (1, -2)), states))
        runs = [[Pupil([8]), [list(step) for step in RUN]]]
        before = told(runs)
        found = list(toldback.fitting(runs, levels=3, count=4))
        self.assertIn(Ladder(), found)
        self.assertEqual(told(runs), before)
        deeds = as_lists(DEEDS)
        seat = Sitting(WEB, MARKS)
        sitting.run_deeds(seat, deeds)
        changed(deeds)
        self.assertEqual((seat.position, seat.marks), (2, MARKS))


# Generators and what changes its argument are tried by themselves; the internal ones are free.
SPECIAL = {"walk", "fitting", "run_deeds"}
INTERNAL = {
    "check_chances", "check_marks", "target_of", "pupil_to", "have_place", "ends_of", "split_walk", "split_pair",
    "told_rights", "greatest_final", "ratio_of", "is_question", "number_in", "position_in",
}


class Attributes(unittest.TestCase):
    def test_they_are_set_on_each_new_object(self):
        for value, words in (
            (Web(NODES, 4, start=-1), {"nodes": NODES, "ends": 4, "start": -1}), (Pupil([3, 1, 3]), {"rights": (1, 3)}),
            (Ladder(levels=4), {"levels": 4, "begin": 2, "up": 1, "down": 1, "count": 4, "most_wrongs": 0}),
            (Joint([WEB], [[1]]), {"webs": (WEB,), "starts": ((1,),), "relation": "same"}),
            (Answer(True, 1, None), {"found": True, "witness": 1, "paper": None}),
            (Ratio(4, -6), {"top": -2, "bottom": 3}),
            (Polynomial([1, 0]), {"parts": (Ratio(1),)}), (Sitting(WEB, list(MARKS)), {"web": WEB, "marks": MARKS}),
        ):
            for word, wanted in words.items():
                found = getattr(value, word)
                with self.subTest((value.__class__, word)):
                    self.assertEqual(found, wanted)
                    self.assertIs(found.__class__, wanted.__class__)


class Imports(unittest.TestCase):
    def test_no_clock_no_random_numbers_no_files(self):
        for module in MODULES:
            for row in ast.parse(inspect.getsource(module)).body:
                self.assertNotIsInstance(row, ast.Import)
                if isinstance(row, ast.ImportFrom):
                    self.assertIn(row.module.split(".")[0], ("steppedtests", "math"))


if __name__ == "__main__":
    unittest.main()
