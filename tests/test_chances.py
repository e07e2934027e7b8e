import copy
import random
import unittest
from fractions import Fraction

from helpers import (all_questions, at_once, fraction_of, layered, length_by_pupils, mean_by_pupils, random_chances,
                     random_marks, ratios_of, small_grids, small_webs, subsets, with_skips)
from steppedtests.chances import corner, mean, mean_length, slope
from steppedtests.errors import BadChance, BadMarks, BadQuestion, NoChance
from steppedtests.harms import harm
from steppedtests.pupils import Pupil
from steppedtests.ratios import Ratio
from steppedtests.walks import mark_of
from steppedtests.webs import Web

WEB = Web([(1, 1, 2), (2, -1, -2), (3, -3, -4)], 4)
HALF = Ratio(1, 2)
HALVES = {1: HALF, 2: HALF, 3: HALF}


def cases(seed, number):
    """Triples of a web, marks and chances of all questions of its nodes."""
    chance = random.Random(seed)
    for web in (*small_webs(seed, number // 2), *small_grids(seed, number // 2)):
        yield web, random_marks(chance, web.ends), random_chances(chance, all_questions(web))


class Errors(unittest.TestCase):
    """Each function that is passed chances, with marks and question where it takes them."""

    CALLS = (
        lambda web, marks, chances, question: mean(web, marks, chances),
        lambda web, marks, chances, question: mean_length(web, chances),
        slope,
    )

    def assert_raises(self, error, number, call, *arguments):
        with self.subTest((error, arguments[1:])), self.assertRaises(error) as caught:
            call(*arguments)
        self.assertEqual(list(vars(caught.exception).values()), [number])

    def test_a_question_without_a_chance(self):
        for call in self.CALLS:
            for missing in ((1,), (2,), (3,), (1, 3), (2, 3), (1, 2, 3)):
                chances = {question: HALF for question in (1, 2, 3, 4) if question not in missing}
                for question in (1, 2, 3, 40):
                    self.assert_raises(NoChance, missing[0], call, WEB, [0] * 4, chances, question)

    def test_a_wrong_chance(self):
        for call in self.CALLS:
            for wrong in (Ratio(-1, 10 ** 39), Ratio(10 ** 39 + 1, 10 ** 39), Ratio(-1), Ratio(2), Ratio(3, 2)):
                for questions in ((1,), (2,), (3,), (2, 3), (1, 3), (1, 2, 3)):
                    chances = {question: wrong if question in questions else HALF for question in (3, 2, 1)}
                    self.assert_raises(BadChance, questions[0], call, WEB, [0] * 4, chances, 1)

    def test_chances_0_and_1(self):
        for call in self.CALLS:
            call(WEB, [0] * 4, {1: Ratio(0), 2: Ratio(1), 3: Ratio(0, 5)}, 1)
        self.assertEqual(mean(WEB, [3, 1, 2, 0], {1: Ratio(0), 2: Ratio(1), 3: Ratio(1)}), 2)

    def test_missing_chances_come_ahead_of_wrong_ones(self):
        for call in self.CALLS:
            self.assert_raises(NoChance, 3, call, WEB, [0] * 4, {1: Ratio(2), 2: Ratio(-1)}, 1)
            self.assert_raises(NoChance, 2, call, WEB, [0] * 4, {1: Ratio(2)}, 1)

    def test_marks_come_first(self):
        for call in (self.CALLS[0], slope):
            for count in (0, 3, 5):
                for chances in ({}, {1: Ratio(2), 2: HALF, 3: HALF}, HALVES):
                    self.assert_raises(BadMarks, count, call, WEB, [0] * count, chances, 1)
                    self.assert_raises(BadMarks, count, call, WEB, [0] * count, chances, 48)

    def test_the_question_comes_last(self):
        for question in (-1, 48, 10 ** 9, -10 ** 9):
            self.assert_raises(BadQuestion, question, slope, WEB, [0] * 4, HALVES, question)
            self.assert_raises(NoChance, 2, slope, WEB, [0] * 4, {1: HALF, 3: Ratio(7)}, question)
            self.assert_raises(BadChance, 3, slope, WEB, [0] * 4, {**HALVES, 3: Ratio(7)}, question)

    def test_questions_that_are_not_asked_do_not_count(self):
        web = Web([(5, 1, -2), (6, -1, -2, 2), (7, -1, -1), (8, -1, -2)], 2)
        for more in ({}, {7: Ratio(9)}, {8: Ratio(-1), 47: Ratio(2)}, {0: HALF}, {99: Ratio(5), -1: Ratio(5)}):
            chances = {5: HALF, 6: HALF, **more}
            self.assertEqual(mean(web, [1, 0], chances), Ratio(1, 4))
            self.assertEqual(mean_length(web, chances), Ratio(3, 2))
            self.assertEqual(slope(web, [1, 0], chances, 5), HALF)
        later = Web(web.nodes, 2, start=1)
        self.assertEqual(mean(later, [1, 0], {6: Ratio(1, 3)}), Ratio(1, 3))


class Means(unittest.TestCase):
    def test_the_example_of_the_document(self):
        self.assertEqual(str(mean(WEB, [3, 1, 2, 0], HALVES)), "3/2")

    def test_by_hand(self):
        web = Web([(1, -1, 1), (2, -2, -3)], 3)
        chances = {1: Ratio(1, 3), 2: Ratio(1, 5)}
        self.assertEqual(mean(web, [30, 15, 0], chances), 12)
        self.assertEqual(mean_length(web, chances), Ratio(5, 3))
        self.assertEqual(slope(web, [30, 15, 0], chances, 1), 27)
        self.assertEqual(slope(web, [30, 15, 0], chances, 2), 10)

    def test_a_start_at_an_end(self):
        for web in (Web([], 3, start=-2), Web([(1, -1, -2)], 3, start=-2)):
            for found, value in ((mean(web, [1, -10 ** 20, 3], {}), -10 ** 20), (mean_length(web, {}), 0),
                                 (slope(web, [1, 2, 3], {}, 1), 0), (slope(web, [1, 2, 3], {1: HALF}, 1), 0)):
                self.assertIsInstance(found, Ratio)
                self.assertEqual(found, value)
            self.assertEqual(corner(web, Pupil([1, 2])), {})

    def test_small_webs(self):
        for web, marks, fractions in cases(1, 200):
            chances = ratios_of(fractions)
            before = dict(chances)
            found = mean(web, marks, chances)
            self.assertIsInstance(found, Ratio)
            self.assertEqual(fraction_of(found), mean_by_pupils(web, marks, fractions))
            found = mean_length(web, chances)
            self.assertIsInstance(found, Ratio)
            self.assertEqual(fraction_of(found), length_by_pupils(web, fractions))
            self.assertEqual(chances, before)

    def test_large_numbers(self):
        chance = random.Random(2)
        for web in small_grids(2, 20):
            marks = [chance.randrange(-10 ** 20, 10 ** 20) for _ in range(web.ends)]
            fractions = random_chances(chance, all_questions(web), 10 ** 40)
            found = mean(web, marks, ratios_of(fractions))
            self.assertEqual(fraction_of(found), mean_by_pupils(web, marks, fractions))


class Slopes(unittest.TestCase):
    def test_small_webs(self):
        for web, marks, fractions in cases(3, 100):
            chances = ratios_of(fractions)
            before = dict(chances)
            for question in range(7):
                found = slope(web, marks, chances, question)
                ends = [mean_by_pupils(web, marks, {**fractions, question: Fraction(part)}) for part in (1, 0)]
                self.assertIsInstance(found, Ratio)
                self.assertEqual(fraction_of(found), ends[0] - ends[1])
            self.assertEqual(chances, before)

    def test_questions_that_are_not_asked(self):
        for question in (0, 4, 30, 47):
            for chances in (HALVES, {**HALVES, question: Ratio(9)}):
                found = slope(WEB, [3, 1, 2, 0], chances, question)
                self.assertIsInstance(found, Ratio)
                self.assertEqual(found, 0)

    def test_the_mean_is_a_straight_function_of_each_chance(self):
        for web, marks, fractions in cases(4, 100):
            for question in fractions:
                chances = ratios_of(fractions)
                rise = slope(web, marks, chances, question)
                base = mean(web, marks, {**chances, question: Ratio(0)})
                for part in (Ratio(1), Ratio(1, 3), Ratio(5, 7)):
                    self.assertEqual(mean(web, marks, {**chances, question: part}), base + part * rise)

    def test_harm(self):
        """No slope is below 0 if the web does not harm; otherwise the witness has one at its corner."""
        harming = 0
        for web, marks, fractions in cases(5, 200):
            answer = harm(web, marks)
            if answer:
                harming += 1
                pupil, question = answer.witness
                self.assertLess(slope(web, marks, corner(web, pupil), question), 0)
                continue
            chances = ratios_of(fractions)
            self.assertTrue(all(slope(web, marks, chances, question) >= 0 for question in fractions))
            greater = {question: part + (1 - part).over(3) for question, part in chances.items()}
            self.assertGreaterEqual(mean(web, marks, greater), mean(web, marks, chances))
        self.assertTrue(20 < harming < 180)


class Corners(unittest.TestCase):
    def test_by_hand(self):
        self.assertEqual(corner(WEB, Pupil([])), {1: Ratio(0), 2: Ratio(0), 3: Ratio(0)})
        self.assertEqual(corner(WEB, Pupil([1, 3])), {1: Ratio(1), 2: Ratio(0), 3: Ratio(1)})
        self.assertEqual(corner(WEB, Pupil(range(48))), {1: Ratio(1), 2: Ratio(1), 3: Ratio(1)})
        self.assertEqual(corner(WEB, Pupil([0, 4, 47])), {1: Ratio(0), 2: Ratio(0), 3: Ratio(0)})
        self.assertTrue(all(isinstance(part, Ratio) for part in corner(WEB, Pupil([1])).values()))

    def test_questions_of_the_web_only(self):
        web = Web([(5, 1, -2), (6, -1, -2, 2), (7, -1, -1), (8, -1, -2)], 2)
        self.assertEqual(corner(web, Pupil([6, 7, 8])), {5: Ratio(0), 6: Ratio(1)})

    def test_the_mean_there_is_the_mark(self):
        for web, marks, fractions in cases(6, 100):
            for rights in subsets(fractions):
                pupil = Pupil(rights)
                self.assertEqual(mean(web, marks, corner(web, pupil)), mark_of(web, marks, pupil))

    def test_it_belongs_to_the_caller(self):
        found = corner(WEB, Pupil([1]))
        kept = copy.copy(found)
        found[1] = Ratio(0)
        del found[2]
        self.assertEqual(corner(WEB, Pupil([1])), kept)


class Large(unittest.TestCase):
    def test_many_nodes(self):
        chance = random.Random(7)
        for layers, width in ((48, 4), (20, 10), (2, 100)):
            for nodes in (layered(layers, width, 60), with_skips(layered(layers, width, 60))):
                web = Web(nodes, 60)
                marks = [chance.randrange(10 ** 20) for _ in range(60)]
                with at_once(10):
                    chances = ratios_of(random_chances(chance, range(48), 10 ** 40))
                    self.assertTrue(0 <= mean(web, marks, chances) <= 10 ** 20)
                    self.assertEqual(mean_length(web, chances), layers)
                    self.assertEqual(mean(web, [5] * 60, chances), 5)
                    for question in range(0, 48, 12):
                        low = mean(web, marks, {**chances, question: Ratio(0)})
                        high = mean(web, marks, {**chances, question: Ratio(1)})
                        self.assertEqual(slope(web, marks, chances, question), high - low)
                    pupil = Pupil(chance.sample(range(48), 24))
                    self.assertEqual(mean(web, marks, corner(web, pupil)), mark_of(web, marks, pupil))


if __name__ == "__main__":
    unittest.main()
