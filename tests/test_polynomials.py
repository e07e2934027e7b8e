import itertools
import random
import unittest
from fractions import Fraction

from helpers import at_once, fraction_of, ratio_of_fraction
from steppedtests.errors import BadInterval, ZeroPolynomial
from steppedtests.polynomials import Polynomial, count_roots, negative_at
from steppedtests.ratios import Ratio

X = Polynomial([0, 1])
# The parts of polynomials: integers, ratios, both, and zeros in all places.
ROWS = (
    [], [0], [0, 0, Ratio(0, 7)], [5], [Ratio(-1, 3)], [0, 0, 2], [3, 0, 0], [1, 2], [1, -2], [-1, 2],
    [Ratio(1, 2), 3, 0, Ratio(-7, 5)], (Ratio(4, 2), 0, 0), [1, 2, 3, 4, 0], [-1, -2, -3, -4],
    [Ratio(10 ** 39 + 1, 10 ** 39), -10 ** 39, 7], [Ratio(1, 3), Ratio(1, 6), Ratio(-1, 2)],
)
POINTS = (0, 1, -1, 2, -30, 10 ** 39, Ratio(1, 2), Ratio(-7, 3), Ratio(10 ** 39, 10 ** 40 - 1), Ratio(0, 3))


def exact(value):
    return fraction_of(value) if isinstance(value, Ratio) else Fraction(value)


def plain(parts):
    """The parts as fractions, without zeros at the end."""
    found = [exact(part) for part in parts]
    while found and found[-1] == 0:
        del found[-1]
    return found


def of_fractions(parts):
    return Polynomial([ratio_of_fraction(Fraction(part)) for part in parts])


def value_of(parts, x):
    return sum((part * x ** k for k, part in enumerate(parts)), Fraction(0))


def product_of(first, second):
    parts = [Fraction(0)] * (len(first) + len(second))
    for (i, a), (k, b) in itertools.product(enumerate(first), enumerate(second)):
        parts[i + k] += a * b
    return plain(parts)


def from_roots(factor, roots, squares=(), rootless=0):
    """factor times (x - r) for each root, (x * x - c) for each square and (x * x + 1) without roots."""
    parts = [Fraction(factor)]
    for root in roots:
        parts = product_of(parts, [-Fraction(root), Fraction(1)])
    for square in squares:
        parts = product_of(parts, [-Fraction(square), Fraction(0), Fraction(1)])
    for _ in range(rootless):
        parts = product_of(parts, [Fraction(1), Fraction(0), Fraction(1)])
    return parts


def at_most(surd, x):
    """True if the surd (sign, c), the sign times the square root of c, is at most x."""
    sign, c = surd
    if sign > 0:
        return x >= 0 and c <= x * x
    return x >= 0 or c >= x * x


def near(surd):
    """A fraction very close to the surd (sign, c)."""
    low, high = Fraction(0), Fraction(surd[1]) + 1
    for _ in range(200):
        middle = (low + high) / 2
        low, high = (middle, high) if middle * middle <= surd[1] else (low, middle)
    return surd[0] * low


def is_below(parts, roots, low, high):
    """True if the polynomial with these roots is below 0 somewhere from low to high."""
    places = sorted({low, high, *[root for root in roots if low < root < high]})
    places += [(first + second) / 2 for first, second in zip(places, places[1:])]
    return any(value_of(parts, x) < 0 for x in places if x in (low, high) or x not in roots)


class Same(unittest.TestCase):
    def assert_parts(self, p, parts):
        self.assertIsInstance(p, Polynomial)
        self.assertIsInstance(p.parts, tuple)
        self.assertTrue(all(isinstance(part, Ratio) for part in p.parts))
        self.assertEqual([fraction_of(part) for part in p.parts], plain(parts))
        self.assertEqual(len(p), len(p.parts))


class Constructor(Same):
    def test_parts(self):
        for row in ROWS:
            self.assert_parts(Polynomial(row), row)
            self.assert_parts(Polynomial(tuple(row)), row)

    def test_zeros_at_the_end(self):
        self.assertEqual(Polynomial([0, 0, 0]).parts, ())
        self.assertEqual(Polynomial([]).parts, ())
        self.assertEqual(Polynomial([Ratio(0, 5)]).parts, ())
        self.assertEqual(Polynomial([0, 0, 3, 0, Ratio(0)]).parts, (0, 0, 3))
        self.assertEqual([len(Polynomial(row)) for row in ([], [0], [1], [0, 1], [1, 0], [0, 0, 1])],
                         [0, 0, 1, 2, 1, 3])

    def test_later_changes_of_the_list(self):
        row = [1, Ratio(1, 2), 3]
        p = Polynomial(row)
        row[0] = 7
        row.append(9)
        self.assert_parts(p, [1, Ratio(1, 2), 3])

    def test_keyword(self):
        self.assertEqual(Polynomial(parts=[1, 2]), Polynomial([1, 2]))


class Arithmetic(Same):
    def test_sums_differences_products(self):
        for first, second in itertools.product(ROWS, repeat=2):
            p, q = Polynomial(first), Polynomial(second)
            a, b = plain(first), plain(second)
            sums = list(itertools.zip_longest(a, b, fillvalue=Fraction(0)))
            self.assert_parts(p + q, [one + other for one, other in sums])
            self.assert_parts(p - q, [one - other for one, other in sums])
            self.assert_parts(p * q, product_of(a, b))
            self.assert_parts(p, first)
            self.assert_parts(q, second)

    def test_highest_parts_that_are_lost(self):
        self.assert_parts(Polynomial([1, 2, 3]) + Polynomial([1, 0, -3]), [2, 2])
        self.assert_parts(Polynomial([1, 2, 3]) - Polynomial([1, 2, 3]), [])
        self.assert_parts(Polynomial([0, Ratio(1, 3), Ratio(1, 2)]) - Polynomial([0, Ratio(1, 3), Ratio(2, 4)]), [])
        self.assert_parts(Polynomial([1, 2, 3]) * Polynomial([0]), [])
        self.assert_parts((X + X) - X - X, [])

    def test_negative(self):
        for row in ROWS:
            self.assert_parts(-Polynomial(row), [-exact(part) for part in row])

    def test_equality(self):
        for first, second in itertools.product(ROWS, repeat=2):
            alike = plain(first) == plain(second)
            self.assertIs(Polynomial(first) == Polynomial(second), alike)
            self.assertIs(Polynomial(first) != Polynomial(second), not alike)
        self.assertEqual((X + Polynomial([1])) * (X - Polynomial([1])), Polynomial([-1, 0, 1]))
        self.assertEqual(Polynomial([Ratio(2, 4), Ratio(6, 3)]), Polynomial((Ratio(1, 2), 2, 0)))
        self.assertNotEqual(Polynomial([0, 1]), Polynomial([1]))
        self.assertFalse(Polynomial([1]) == (Ratio(1),))
        self.assertFalse(Polynomial([]) == ())

    def test_values(self):
        for row, x in itertools.product(ROWS, POINTS):
            found = Polynomial(row)(x)
            self.assertIsInstance(found, Ratio)
            self.assertEqual(fraction_of(found), value_of(plain(row), exact(x)))

    def test_derivative(self):
        for row in ROWS:
            parts = plain(row)
            self.assert_parts(Polynomial(row).derivative(), [part * k for k, part in enumerate(parts)][1:])
        self.assert_parts(Polynomial([5]).derivative(), [])
        self.assert_parts(Polynomial([]).derivative(), [])
        self.assert_parts(Polynomial([1, 0, Ratio(1, 2), 4]).derivative(), [0, 1, 12])


class Intervals(unittest.TestCase):
    def test_low_above_high(self):
        for low, high in ((1, 0), (Ratio(1, 2), 0), (1, Ratio(10 ** 39 - 1, 10 ** 39)), (Ratio(-1, 3), Ratio(-1, 2))):
            for row in ([1], [0, 1], [-2, 0, 1]):
                self.assertRaises(BadInterval, count_roots, Polynomial(row), low, high)
                self.assertRaises(BadInterval, negative_at, Polynomial(row), low, high)
            self.assertRaises(BadInterval, negative_at, Polynomial([]), low, high)

    def test_zero_polynomial(self):
        for row in ([], [0], [0, 0]):
            for low, high in ((0, 1), (1, 1), (1, 0), (Ratio(1, 2), Ratio(1, 3))):
                self.assertRaises(ZeroPolynomial, count_roots, Polynomial(row), low, high)
            self.assertIsNone(negative_at(Polynomial(row), 0, 1))
            self.assertIsNone(negative_at(Polynomial(row), -1, -1))

    def test_low_equal_to_high(self):
        for x in (0, 2, Ratio(1, 3), Ratio(-5)):
            self.assertEqual(count_roots(X - Polynomial([x]), x, x), 0)
            self.assertIsNone(negative_at(X - Polynomial([x]), x, x))
            self.assertEqual(negative_at(X - Polynomial([x]) - Polynomial([1]), x, x), x)
            self.assertIsNone(negative_at(X - Polynomial([x]) + Polynomial([1]), x, x))


class Roots(unittest.TestCase):
    def test_by_hand(self):
        square = Polynomial([-2, 0, 1])
        for low, high, number in ((-2, 2, 2), (0, 2, 1), (0, 1, 0), (1, Ratio(3, 2), 1), (-1, 1, 0), (-2, -1, 1),
                                  (Ratio(7, 5), Ratio(71, 50), 1), (Ratio(71, 50), 10 ** 20, 0)):
            self.assertEqual(count_roots(square, low, high), number)
        self.assertEqual(count_roots(Polynomial([7]), -5, 5), 0)
        self.assertEqual(count_roots(Polynomial([-7]), 0, 0), 0)
        self.assertEqual(count_roots(Polynomial([1, 0, 1]), -10 ** 39, 10 ** 39), 0)

    def test_roots_at_the_borders(self):
        p = X * (X - Polynomial([1])) * (X - Polynomial([2]))
        for low, high, number in ((0, 2, 2), (0, 1, 1), (1, 2, 1), (-1, 0, 1), (-1, 2, 3), (0, Ratio(1, 2), 0),
                                  (Ratio(1, 2), 1, 1), (2, 3, 0), (0, 0, 0), (1, 1, 0), (Ratio(-1, 9), Ratio(0, 5), 1)):
            for factor in (1, -1, Ratio(-3, 7)):
                self.assertEqual(count_roots(p * Polynomial([factor]), low, high), number)
                self.assertEqual(count_roots(p * p * Polynomial([factor]), low * Ratio(1), high * Ratio(1)), number)
                self.assertEqual(count_roots(p * p * p * p * Polynomial([factor]), low, high), number)

    def test_known_roots(self):
        chance = random.Random(1)
        for _ in range(300):
            roots = [Fraction(chance.randrange(-6, 7), chance.choice((1, 1, 2, 3))) for _ in range(chance.randrange(6))]
            squares = [Fraction(chance.choice((2, 3, 5, Fraction(1, 2)))) for _ in range(chance.randrange(3))]
            factor = Fraction(chance.choice((-1, 1)) * chance.randrange(1, 99), chance.randrange(1, 99))
            p = of_fractions(from_roots(factor, roots, squares, chance.randrange(2)))
            low, high = sorted(chance.choice([Fraction(chance.randrange(-9, 10), chance.choice((1, 2, 3))), *roots])
                               for _ in range(2))
            surds = {(sign, square) for square in squares for sign in (1, -1)}
            wanted = len({root for root in roots if low < root <= high})
            wanted += len([surd for surd in surds if at_most(surd, high) and not at_most(surd, low)])
            with self.subTest((factor, roots, squares, low, high)):
                self.assertEqual(count_roots(p, ratio_of_fraction(low), ratio_of_fraction(high)), wanted)
                if low.denominator == high.denominator == 1:
                    self.assertEqual(count_roots(p, low.numerator, high.numerator), wanted)

    def test_close_roots(self):
        for digits in (3, 10, 18):
            step = Fraction(1, 10 ** digits)
            roots = [Fraction(1, 3), Fraction(1, 3) + step, Fraction(1, 3) + 2 * step]
            for powers in ((1, 1, 1), (2, 1, 2), (2, 2, 2), (4, 4, 4), (1, 3, 1)):
                rows = [root for root, power in zip(roots, powers) for _ in range(power)]
                for factor in (1, -1):
                    p = of_fractions(from_roots(factor, rows))
                    borders = [ratio_of_fraction(root) for root in (0, *roots, 1)]
                    for i, k in itertools.combinations_with_replacement(range(5), 2):
                        wanted = min(k, 3) - i
                        self.assertEqual(count_roots(p, borders[i], borders[k]), max(0, wanted))

    def test_many_digits(self):
        chance = random.Random(2)
        for _ in range(20):
            roots = [Fraction(chance.randrange(-10 ** 20, 10 ** 20), chance.randrange(1, 10 ** 20)) for _ in range(2)]
            factor = Fraction(-chance.randrange(1, 10 ** 20), chance.randrange(1, 10 ** 20))
            p = of_fractions(from_roots(factor, roots))
            low, high = map(ratio_of_fraction, sorted(roots))
            self.assertEqual(count_roots(p, low, high), 1)
            self.assertEqual(count_roots(p, low - Ratio(1, 10 ** 39), high), 2)
            self.assertEqual(count_roots(p, low, high - Ratio(1, 10 ** 39)), 0)
            self.assertEqual(count_roots(p, high, high + 10 ** 39), 0)

    def test_degree_12(self):
        roots = [Fraction(k, 13) for k in range(1, 13)]
        for factor in (1, -1):
            p = of_fractions(from_roots(factor, roots))
            for i, k in itertools.combinations(range(14), 2):
                self.assertEqual(count_roots(p, Ratio(i, 13), Ratio(k, 13)), min(k, 12) - i)
        self.assertEqual(count_roots(Polynomial([-1] + [0] * 11 + [1]), -1, 1), 1)
        self.assertEqual(count_roots(Polynomial([-1] + [0] * 11 + [1]), -2, 1), 2)
        self.assertEqual(count_roots(Polynomial([0] * 12 + [-5]), -1, 0), 1)


class Below(unittest.TestCase):
    def assert_below(self, p, low, high):
        x = negative_at(p, low, high)
        self.assertIsInstance(x, Ratio)
        self.assertTrue(low <= x <= high)
        self.assertLess(p(x), 0)

    def test_by_hand(self):
        for row, low, high in (([-1], 0, 0), ([-1], -3, 5), ([0, 1], -1, 1), ([0, -1], -1, 1), ([-2, 0, 1], -2, 2),
                               ([2, 0, -1], 0, 2), ([2, 0, -1], -2, 0), ([0, 1, -1], 1, 2), ([0, 1, -1], -1, 0),
                               ([0, -1, 1], 0, 1), ([0, 0, -1], 0, Ratio(1, 10 ** 39)), ([0, 0, 0, 1], -1, 0)):
            self.assert_below(Polynomial(row), low, high)
        for row, low, high in (([1], 0, 1), ([0, 1], 0, 1), ([0, -1], -1, 0), ([-2, 0, 1], 2, 3), ([1, 0, 1], -9, 9),
                               ([2, 0, -1], -1, 1), ([0, 1, -1], 0, 1), ([0, 0, 1], -1, 1), ([1, -2, 1], 0, 2),
                               ([1, 0, -2, 0, 1], -5, 5), ([0, -1], 0, 0), ([0, 1], 0, 0), ([0, 0, -1], 0, 0)):
            self.assertIsNone(negative_at(Polynomial(row), low, high))

    def test_only_at_a_border(self):
        for edge in (Fraction(1, 10 ** 39), Fraction(1, 10 ** 12), Fraction(1, 7)):
            rising, falling = of_fractions([-edge, 1]), of_fractions([1 - edge, -1])
            self.assert_below(rising, 0, 1)
            self.assert_below(falling, 0, 1)
            self.assert_below(of_fractions([-edge, 1 + edge, -edge]), 0, 1)
            self.assertIsNone(negative_at(rising, ratio_of_fraction(edge), 1))
            self.assertIsNone(negative_at(falling, 0, ratio_of_fraction(1 - edge)))

    def test_between_close_roots(self):
        for digits in (3, 10, 19):
            step = Fraction(1, 10 ** digits)
            for root in (Fraction(1, 3), Fraction(0), Fraction(1) - step, Fraction(7, 9)):
                for others in ([], [Fraction(1, 2)] * 2, [Fraction(-1)], [Fraction(-1, 2)] * 2 + [Fraction(-3)]):
                    p = of_fractions(from_roots(1, [root, root + step, *others]))
                    self.assert_below(p, 0, 1)
                    self.assert_below(p, ratio_of_fraction(root), ratio_of_fraction(root + step))
                    above = of_fractions(from_roots(1, [root, root, root + step, root + step, *others]))
                    self.assertIsNone(negative_at(above, 0, 1))

    def test_roots_that_are_no_ratios(self):
        # (x * x - 2) * (x * x - 2 - 1 / n) is below 0 only between two close surds.
        for digits in (2, 9, 18):
            step = Fraction(1, 10 ** digits)
            p = of_fractions(from_roots(1, [], [Fraction(2), 2 + step]))
            self.assert_below(p, 0, 2)
            self.assert_below(p, -2, 0)
            self.assertIsNone(negative_at(p, -1, 1))
            self.assertIsNone(negative_at(of_fractions(from_roots(1, [], [2, 2, 2 + step, 2 + step])), -2, 2))

    def test_known_roots(self):
        chance = random.Random(3)
        found = 0
        for _ in range(400):
            roots = [Fraction(chance.randrange(-4, 5), chance.choice((1, 1, 2, 3))) for _ in range(chance.randrange(4))]
            roots += [root for root in roots if chance.randrange(2)]
            squares = [Fraction(chance.choice((2, 3, 5))) for _ in range(chance.randrange(3))]
            squares += [square for square in squares if chance.randrange(2)]
            factor = Fraction(chance.choice((-1, 1, 1)) * chance.randrange(1, 99), chance.randrange(1, 99))
            parts = from_roots(factor, roots, squares, chance.randrange(2))
            low, high = sorted(chance.choice([Fraction(chance.randrange(-9, 10), chance.choice((1, 2, 3))), *roots])
                               for _ in range(2))
            near_all = set(roots) | {near((sign, square)) for square in squares for sign in (1, -1)}
            with self.subTest((factor, roots, squares, low, high)):
                p, first, last = of_fractions(parts), ratio_of_fraction(low), ratio_of_fraction(high)
                if is_below(parts, near_all, low, high):
                    found += 1
                    self.assert_below(p, first, last)
                else:
                    self.assertIsNone(negative_at(p, first, last))
        self.assertTrue(100 < found < 300)

    def test_nothing_is_changed(self):
        p = Polynomial([Ratio(-2, 3), 0, 1])
        kept = p.parts
        negative_at(p, -5, 5)
        count_roots(p, -5, 5)
        p.derivative()
        self.assertEqual(p.parts, kept)


class Large(unittest.TestCase):
    def test_many_digits_and_degree_12(self):
        chance = random.Random(4)
        with at_once(20):
            for _ in range(5):
                parts = [Ratio(chance.randrange(-10 ** 40, 10 ** 40), chance.randrange(1, 10 ** 40)) for _ in range(13)]
                for factor in (1, -1):
                    p = Polynomial(parts) * Polynomial([factor])
                    number = count_roots(p, -10 ** 39, 10 ** 39)
                    halves = count_roots(p, -10 ** 39, 0) + count_roots(p, 0, 10 ** 39)
                    self.assertEqual(number, halves)
                    x = negative_at(p, -10 ** 39, 10 ** 39)
                    self.assertTrue(x is None or p(x) < 0)

    def test_very_close_roots(self):
        # Two roots of x ** 12 - 2 * (a * x - 1) ** 2 are close to 1 / a.
        a = 10 ** 19
        row = Polynomial([-1, a])
        p = Polynomial([0] * 12 + [1]) - Polynomial([2]) * row * row
        with at_once(20):
            self.assertEqual(count_roots(p, 0, 1), 2)
            self.assertEqual(count_roots(p, 0, Ratio(1, a)), 1)
            self.assertEqual(count_roots(p, -10 ** 39, 10 ** 39), 4)
            x = negative_at(-p, 0, 1)
            self.assertTrue(0 <= x <= 1 and p(x) > 0)
            self.assertIsNone(negative_at(p * p, 0, 1))


if __name__ == "__main__":
    unittest.main()
