import random
import unittest
from fractions import Fraction

from helpers import (all_questions, at_once, fraction_of, layered, mean_by_pupils, random_chances, random_marks,
                     ratio_of_fraction, ratios_of, small_grids, small_webs, with_skips)
from steppedtests.chances import mean, slope
from steppedtests.errors import BadChance, BadMarks, NoChance
from steppedtests.harms import harm
from steppedtests.ladders import Ladder, build
from steppedtests.lines import falls_along, line_mean
from steppedtests.polynomials import Polynomial
from steppedtests.ratios import Ratio
from steppedtests.webs import Web

FUNCTIONS = (line_mean, falls_along)
WEB = Web([(1, 1, 2), (2, -1, -2), (3, -3, -4)], 4)
HALF = Ratio(1, 2)
HALVES = {1: HALF, 2: HALF, 3: HALF}
ONE = Web([(5, -1, -2)], 2)
# Exactly one of two right answers comes to end 0.
EITHER = Web([(0, 1, 2), (1, -2, -1), (1, -1, -2)], 2)


def cases(seed, number):
    """Webs, marks and two chances for each question of their nodes, as fractions."""
    chance = random.Random(seed)
    for web in (*small_webs(seed, number // 2), *small_grids(seed, number // 2)):
        questions = all_questions(web)
        yield (web, random_marks(chance, web.ends),
               random_chances(chance, questions), random_chances(chance, questions))


def between(first, second, x):
    return {question: (1 - x) * first[question] + x * second[question] for question in first}


def slope_along(web, marks, first, second, x):
    """The derivative of the mean along the line, put together from the slopes of single chances."""
    chances = ratios_of(between(first, second, x))
    rises = [ratio_of_fraction(second[question] - first[question]) * slope(web, marks, chances, question)
             for question in first]
    return sum(rises, Ratio(0))


class Errors(unittest.TestCase):
    def assert_raises(self, error, number, *arguments):
        for function in FUNCTIONS:
            with self.subTest((function, error, arguments[1:])), self.assertRaises(error) as caught:
                function(*arguments)
            self.assertEqual(list(vars(caught.exception).values()), [number])

    def test_marks_come_first(self):
        for count in (0, 1, 3, 5):
            for chances in ({}, {1: Ratio(2), 2: HALF, 3: HALF}, HALVES):
                self.assert_raises(BadMarks, count, WEB, [0] * count, chances, {})
                self.assert_raises(BadMarks, count, WEB, [0] * count, HALVES, chances)

    def test_the_first_chances_come_ahead_of_the_second_ones(self):
        missing, wrong = {1: HALF, 2: HALF}, {1: HALF, 2: Ratio(3, 2), 3: HALF}
        for second in ({}, missing, wrong, {1: Ratio(-1), 2: HALF, 3: HALF}, HALVES):
            self.assert_raises(NoChance, 3, WEB, [0] * 4, missing, second)
            self.assert_raises(BadChance, 2, WEB, [0] * 4, wrong, second)
            self.assert_raises(NoChance, 3, WEB, [0] * 4, {1: Ratio(2), 2: HALF}, second)

    def test_the_second_chances(self):
        self.assert_raises(NoChance, 1, WEB, [0] * 4, HALVES, {})
        self.assert_raises(NoChance, 2, WEB, [0] * 4, HALVES, {1: Ratio(2), 3: HALF})
        self.assert_raises(BadChance, 1, WEB, [0] * 4, HALVES, {3: Ratio(2), 2: HALF, 1: Ratio(-1, 10 ** 39)})
        self.assert_raises(BadChance, 3, WEB, [0] * 4, HALVES, {**HALVES, 3: Ratio(10 ** 39 + 1, 10 ** 39)})

    def test_other_questions_do_not_count(self):
        for first, second in (({**HALVES, 4: Ratio(7)}, HALVES), (HALVES, {**HALVES, 0: Ratio(-7), 47: Ratio(2)})):
            self.assertEqual(line_mean(WEB, [0, 1, 2, 3], first, second), Polynomial([Ratio(3, 2)]))
            self.assertIsNone(falls_along(WEB, [0, 1, 2, 3], first, second))
        skipping = Web([(1, -1, -2, 1), (2, -1, -2)], 2)
        self.assertEqual(line_mean(skipping, [1, 0], {1: HALF, 2: Ratio(9)}, {1: Ratio(1)}), Polynomial([HALF, HALF]))


class Means(unittest.TestCase):
    def test_by_hand(self):
        self.assertEqual(line_mean(ONE, [1, 0], {5: Ratio(0)}, {5: Ratio(1)}), Polynomial([0, 1]))
        self.assertEqual(line_mean(ONE, [1, 0], {5: Ratio(1)}, {5: Ratio(0)}), Polynomial([1, -1]))
        self.assertEqual(line_mean(ONE, (7, -3), {5: Ratio(1, 4)}, {5: Ratio(3, 4)}), Polynomial([Ratio(-1, 2), 5]))
        low, high = {0: Ratio(0), 1: Ratio(0)}, {0: Ratio(1), 1: Ratio(1)}
        self.assertEqual(line_mean(EITHER, [1, 0], low, high), Polynomial([0, 2, -2]))
        self.assertEqual(line_mean(EITHER, [1, 1], low, high), Polynomial([1]))
        self.assertEqual(line_mean(EITHER, [0, 0], low, high), Polynomial([]))

    def test_a_start_at_an_end(self):
        for web in (Web([], 3, start=-2), Web([(1, -1, -2)], 3, start=-2)):
            for chances in ({}, {1: Ratio(5)}):
                self.assertEqual(line_mean(web, [1, -10 ** 20, 3], {}, chances), Polynomial([-10 ** 20]))
                self.assertEqual(line_mean(web, [1, 0, 3], chances, {}), Polynomial([]))
                self.assertIsNone(falls_along(web, [1, 2, 3], chances, {}))

    def test_against_all_pupils(self):
        for web, marks, first, second in cases(1, 120):
            one, two = ratios_of(first), ratios_of(second)
            kept = (list(marks), dict(one), dict(two))
            p = line_mean(web, marks, one, two)
            self.assertIsInstance(p, Polynomial)
            self.assertEqual((list(marks), one, two), kept)
            for x in (Fraction(0), Fraction(1), Fraction(1, 2), Fraction(2, 7), Fraction(1, 10 ** 9)):
                value = mean_by_pupils(web, marks, between(first, second, x))
                self.assertEqual(fraction_of(p(ratio_of_fraction(x))), value)

    def test_both_ends_alike(self):
        for web, marks, first, _ in cases(2, 60):
            chances = ratios_of(first)
            self.assertEqual(line_mean(web, marks, chances, chances), Polynomial([mean(web, marks, chances)]))
            self.assertIsNone(falls_along(web, marks, chances, dict(chances)))


class Falls(unittest.TestCase):
    def assert_falls(self, web, marks, first, second, low=0, high=1):
        x = falls_along(web, marks, first, second)
        self.assertIsInstance(x, Ratio)
        self.assertTrue(low <= x <= high)
        self.assertLess(line_mean(web, marks, first, second).derivative()(x), 0)

    def test_straight_lines(self):
        zero, one = {5: Ratio(0)}, {5: Ratio(1)}
        self.assertIsNone(falls_along(ONE, [1, 0], zero, one))
        self.assert_falls(ONE, [1, 0], one, zero)
        self.assert_falls(ONE, [0, 1], zero, one)
        self.assertIsNone(falls_along(ONE, [4, 4], zero, one))
        tiny = {5: Ratio(10 ** 39 - 1, 10 ** 39)}
        self.assert_falls(ONE, [1, 0], one, tiny)
        self.assertIsNone(falls_along(ONE, [1, 0], tiny, one))

    def test_a_line_that_rises_and_then_falls(self):
        low, high = {0: Ratio(0), 1: Ratio(0)}, {0: Ratio(1), 1: Ratio(1)}
        self.assert_falls(EITHER, [1, 0], low, high, HALF)
        self.assert_falls(EITHER, [1, 0], high, low, HALF)
        self.assert_falls(EITHER, [0, 1], low, high, 0, HALF)
        half = {0: HALF, 1: HALF}
        self.assertIsNone(falls_along(EITHER, [1, 0], low, half))
        self.assert_falls(EITHER, [1, 0], half, high)
        # One step beyond the top is enough.
        beyond = {0: Ratio(10 ** 20 + 1, 2 * 10 ** 20), 1: Ratio(10 ** 20 + 1, 2 * 10 ** 20)}
        self.assert_falls(EITHER, [1, 0], low, beyond, Ratio(999, 1000))

    def test_small_webs(self):
        falling = 0
        for web, marks, first, second in cases(3, 200):
            x = falls_along(web, marks, ratios_of(first), ratios_of(second))
            if x is not None:
                falling += 1
                self.assertTrue(0 <= x <= 1)
                self.assertLess(slope_along(web, marks, first, second, fraction_of(x)), 0)
                continue
            for k in range(13):
                self.assertGreaterEqual(slope_along(web, marks, first, second, Fraction(k, 12)), 0)
        self.assertTrue(50 < falling < 180)

    def test_greater_chances_where_nothing_harms(self):
        harmless = 0
        for web, marks, first, second in cases(4, 200):
            if not harm(web, marks):
                harmless += 1
                greater = {question: max(first[question], second[question]) for question in first}
                self.assertIsNone(falls_along(web, marks, ratios_of(first), ratios_of(greater)))
        self.assertGreater(harmless, 20)


class Large(unittest.TestCase):
    def test_degree_12_and_many_digits(self):
        chance = random.Random(5)
        for layers, width in ((12, 16), (48, 4)):
            web = Web(with_skips(layered(layers, width, 60)), 60)
            marks = [chance.randrange(-10 ** 20, 10 ** 20) for _ in range(60)]
            first = random_chances(chance, range(48), 10 ** 40)
            changed = chance.sample(range(layers), 12)
            second = {**first, **random_chances(chance, changed, 10 ** 40)}
            with at_once(30):
                p = line_mean(web, marks, ratios_of(first), ratios_of(second))
                self.assertLessEqual(len(p), 13)
                for x in (Fraction(0), Fraction(1), Fraction(3, 8)):
                    wanted = mean(web, marks, ratios_of(between(first, second, x)))
                    self.assertEqual(p(ratio_of_fraction(x)), wanted)
                x = falls_along(web, marks, ratios_of(first), ratios_of(second))
                self.assertTrue(x is None or p.derivative()(x) < 0)

    def test_ladders(self):
        for up, down in ((1, 1), (2, 1), (3, 2)):
            web = build(Ladder(levels=6, begin=3, up=up, down=down, count=6))
            low = {question: Ratio(1, question + 2) for question in range(48)}
            high = {question: Ratio(question + 1, question + 2) for question in range(48)}
            with at_once(10):
                x = falls_along(web, list(range(7)), high, low)
                self.assertTrue(0 <= x <= 1)
                falls_along(web, tuple(range(7)), low, high)


if __name__ == "__main__":
    unittest.main()
