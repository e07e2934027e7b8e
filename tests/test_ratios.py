import itertools
import operator
import random
import unittest
from fractions import Fraction

from steppedtests.errors import ZeroBottom
from steppedtests.ratios import Ratio

WHOLE = (-10 ** 40 + 1, -12, -3, -1, 0, 1, 2, 7, 30, 10 ** 40 - 1)
COMPARISONS = (operator.eq, operator.ne, operator.lt, operator.le, operator.gt, operator.ge)


def values():
    """Fractions: small ones, around 0, and with 40 digits."""
    found = {Fraction(top, bottom) for top in range(-4, 5) for bottom in range(1, 5)}
    chance = random.Random(1)
    for _ in range(12):
        found.add(Fraction(chance.randrange(-10 ** 40, 10 ** 40), chance.randrange(1, 10 ** 40)))
    return sorted(found)


VALUES = values()


def ratio_of(value):
    return Ratio(value.numerator, value.denominator)


class Same(unittest.TestCase):
    def assert_same(self, ratio, value):
        self.assertIsInstance(ratio, Ratio)
        self.assertEqual((ratio.top, ratio.bottom), (value.numerator, value.denominator))


class Constructor(Same):
    def test_lowest_terms(self):
        for top, bottom in itertools.product(range(-12, 13), repeat=2):
            if bottom:
                self.assert_same(Ratio(top, bottom), Fraction(top, bottom))

    def test_large(self):
        chance = random.Random(2)
        for _ in range(100):
            factor = chance.randrange(1, 10 ** 12)
            top, bottom = chance.randrange(-10 ** 28, 10 ** 28) * factor, chance.randrange(-10 ** 28, 0) * factor
            self.assert_same(Ratio(top, bottom), Fraction(top, bottom))

    def test_without_a_bottom(self):
        for top in WHOLE:
            self.assert_same(Ratio(top), Fraction(top))
        self.assert_same(Ratio(0, -5), Fraction(0))

    def test_keywords(self):
        self.assert_same(Ratio(bottom=-4, top=6), Fraction(-3, 2))

    def test_bottom_0(self):
        for top in WHOLE:
            self.assertRaises(ZeroBottom, Ratio, top, 0)


class Arithmetic(Same):
    OPERATORS = (operator.add, operator.sub, operator.mul)

    def test_ratios(self):
        for a, b in itertools.product(VALUES, VALUES):
            first, second = ratio_of(a), ratio_of(b)
            for sign in self.OPERATORS:
                self.assert_same(sign(first, second), sign(a, b))
            self.assert_same(first, a)
            self.assert_same(second, b)

    def test_integers_on_either_side(self):
        for a, whole in itertools.product(VALUES, WHOLE):
            for sign in self.OPERATORS:
                self.assert_same(sign(ratio_of(a), whole), sign(a, Fraction(whole)))
                self.assert_same(sign(whole, ratio_of(a)), sign(Fraction(whole), a))

    def test_negative(self):
        for a in VALUES:
            self.assert_same(-ratio_of(a), -a)

    def test_over(self):
        for a, b in itertools.product(VALUES, VALUES):
            if b:
                self.assert_same(ratio_of(a).over(ratio_of(b)), a / b)
        for a, whole in itertools.product(VALUES, WHOLE):
            if whole:
                self.assert_same(ratio_of(a).over(whole), a / whole)

    def test_over_0(self):
        for a in VALUES:
            self.assertRaises(ZeroBottom, ratio_of(a).over, 0)
            self.assertRaises(ZeroBottom, ratio_of(a).over, Ratio(0, 7))

    def test_in_place(self):
        ratio = kept = Ratio(1, 2)
        ratio += 1
        ratio *= Ratio(2, 3)
        ratio -= Ratio(1, 4)
        self.assert_same(ratio, Fraction(3, 4))
        self.assert_same(kept, Fraction(1, 2))

    def test_sum(self):
        self.assert_same(sum([Ratio(1, 3), Ratio(1, 6), 2]), Fraction(5, 2))


class Comparisons(unittest.TestCase):
    def compare(self, first, second, a, b):
        for sign in COMPARISONS:
            self.assertIs(sign(first, second), sign(a, b))

    def test_ratios(self):
        for a, b in itertools.product(VALUES, VALUES):
            self.compare(ratio_of(a), ratio_of(b), a, b)

    def test_integers_on_either_side(self):
        for a, whole in itertools.product(VALUES + [Fraction(whole) for whole in WHOLE], WHOLE):
            self.compare(ratio_of(a), whole, a, whole)
            self.compare(whole, ratio_of(a), whole, a)

    def test_what_floats_would_get_wrong(self):
        for a, b in ((Fraction(10 ** 39 + 1, 10 ** 39), Fraction(1)),
                     (Fraction(1, 3), Fraction(333333333333333333, 10 ** 18)),
                     (Fraction(10 ** 39, 10 ** 39 - 1), Fraction(10 ** 39 + 1, 10 ** 39)),
                     (Fraction(2 ** 53 + 1), Fraction(2 ** 53)), (Fraction(1, 10 ** 39), Fraction(0))):
            self.compare(ratio_of(a), ratio_of(b), a, b)
            self.compare(ratio_of(b), ratio_of(a), b, a)
        self.assertFalse(Ratio(2 ** 53 + 1) == 2 ** 53)
        self.assertTrue(Ratio(1, 10) + Ratio(2, 10) == Ratio(3, 10))
        self.assertTrue(Ratio(10 ** 39 + 1, 10 ** 39) > 1)

    def test_other_values_are_not_equal(self):
        for value in (None, "1/2", "1", (1, 2), [1]):
            self.assertFalse(Ratio(1, 2) == value)
            self.assertTrue(Ratio(1) != value)

    def test_truth(self):
        for a in VALUES:
            self.assertIs(bool(ratio_of(a)), a != 0)
        self.assertIs(bool(Ratio(0, -3)), False)
        self.assertIs(bool(Ratio(1, 10 ** 39)), True)


class Text(unittest.TestCase):
    def test_with_and_without_a_bottom(self):
        for top, bottom, text in ((1, 2, "1/2"), (-1, 2, "-1/2"), (3, -6, "-1/2"), (4, 2, "2"), (0, 5, "0"),
                                  (-7, 1, "-7"), (7, -1, "-7"), (10 ** 39, 10 ** 38, "10")):
            self.assertEqual(str(Ratio(top, bottom)), text)
            self.assertEqual(f"{Ratio(top, bottom)}", text)
        for a in VALUES:
            self.assertEqual(str(ratio_of(a)), str(a))


if __name__ == "__main__":
    unittest.main()
