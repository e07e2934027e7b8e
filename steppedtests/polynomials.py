"""Polynomials with exact parts: their roots, and where they are below 0."""

from math import gcd, lcm

from steppedtests.errors import BadInterval, ZeroPolynomial
from steppedtests.ratios import Ratio, ratio_of


class Polynomial:
    """The sum of parts times the powers of x, from the constant upwards."""

    def __init__(self, parts):
        found = [ratio_of(part) for part in parts]
        while found and found[-1] == 0:
            found.pop()
        self.parts = tuple(found)

    def __add__(self, other):
        count = max(len(self.parts), len(other.parts))
        return Polynomial([_part_of(self.parts, k) + _part_of(other.parts, k) for k in range(count)])

    def __neg__(self):
        return Polynomial([-part for part in self.parts])

    def __sub__(self, other):
        return self + -other

    def __mul__(self, other):
        count = len(self.parts) + len(other.parts)
        return Polynomial([_part_of_product(self.parts, other.parts, k) for k in range(count)])

    def __eq__(self, other):
        return isinstance(other, Polynomial) and self.parts == other.parts

    def __call__(self, x):
        value = Ratio(0)
        for part in self.parts[::-1]:
            value = value * x + part
        return value

    def __len__(self):
        return len(self.parts)

    def derivative(self):
        """The polynomial of the slopes."""
        return Polynomial([part * k for k, part in enumerate(self.parts)][1:])


def _part_of(parts, k):
    """The part of the power k, which may be above the highest one."""
    return parts[k] if k < len(parts) else Ratio(0)


def _part_of_product(first, second, k):
    """The part of the power k of the product of polynomials with these parts."""
    return sum([part * second[k - i] for i, part in enumerate(first) if 0 <= k - i < len(second)])


# Below, a polynomial is a list of integers, from the constant upwards, without 0 at
# the end. Only signs count there, so it stands for all its multiples above 0.

def _whole(p):
    """The polynomial with integers."""
    shared = 1
    for part in p.parts:
        shared = lcm(shared, part.bottom)
    return _reduced([part.top * (shared // part.bottom) for part in p.parts])


def _reduced(parts):
    """The integers without the factor that all of them have."""
    shared = 0
    for part in parts:
        shared = gcd(shared, part)
    return [part // shared for part in parts]


def _value(parts, x):
    """An integer with the sign of the value at the ratio x."""
    value = 0
    scale = 1
    for part in parts[::-1]:
        value = value * x.top + part * scale
        scale = scale * x.bottom
    return value


def _negative_rest(parts, divisor):
    """The rest of a division, with its sign turned."""
    rest = list(parts)
    lead = abs(divisor[-1])
    while len(rest) >= len(divisor):
        factor = rest[-1] if divisor[-1] > 0 else -rest[-1]
        shift = len(rest) - len(divisor)
        rest = [part * lead for part in rest]
        for k, part in enumerate(divisor):
            rest[shift + k] -= factor * part
        while rest and rest[-1] == 0:
            rest.pop()
    return _reduced([-part for part in rest])


def _quotient(parts, divisor):
    """The quotient by a divisor that leaves no rest. No part of either has a common factor."""
    rest = list(parts)
    quotient = []
    for shift in reversed(range(len(parts) - len(divisor) + 1)):
        factor = rest[shift + len(divisor) - 1] // divisor[-1]
        quotient.append(factor)
        for k, part in enumerate(divisor):
            rest[shift + k] -= factor * part
    return quotient[::-1]


def _chain(parts):
    """Sturm's chain of the polynomial that has the same roots, each only once."""
    chain = [parts, _reduced([part * k for k, part in enumerate(parts)][1:])]
    while chain[-1]:
        chain.append(_negative_rest(chain[-2], chain[-1]))
    # The last one that is not 0 holds what stands several times among the roots.
    repeated = chain[-2]
    return [_quotient(row, repeated) for row in chain[:-1]]


def _changes(chain, x):
    """How often the sign changes in the chain at x."""
    values = [value for value in [_value(parts, x) for parts in chain] if value != 0]
    return len([first for first, second in zip(values, values[1:]) if (first < 0) != (second < 0)])


def _borders(low, high):
    """Both borders as ratios."""
    if low > high:
        raise BadInterval()
    return ratio_of(low), ratio_of(high)


def count_roots(p, low, high):
    """The number of different roots above low and up to high."""
    if len(p) == 0:
        raise ZeroPolynomial()
    first, last = _borders(low, high)
    chain = _chain(_whole(p))
    return _changes(chain, first) - _changes(chain, last)


def negative_at(p, low, high):
    """A ratio from low to high at which the polynomial is below 0, or None."""
    first, last = _borders(low, high)
    for x in (first, last):
        if p(x) < 0:
            return x
    return None if len(p) == 0 else _negative_between(_whole(p), first, last)


def _negative_between(parts, first, last):
    """The same for a polynomial that is below 0 at neither border."""
    chain = _chain(parts)
    waiting = [(_place(parts, chain, first), _place(parts, chain, last))]
    # The widest intervals come first, so that close roots are looked at last.
    while waiting:
        low, high = waiting.pop(0)
        roots = low[2] - high[2]
        # Without roots above low the sign stays that of high, and so it does beside
        # one root, where both borders are above 0. A root at low tells no sign.
        if roots > 1 or roots == 1 and low[1] == 0:
            middle = _place(parts, chain, (low[0] + high[0]).over(2))
            if middle[1] < 0:
                return middle[0]
            waiting.append((low, middle))
            waiting.append((middle, high))
    return None


def _place(parts, chain, x):
    """What is known of x: itself, the sign there, and the changes in the chain."""
    return (x, _value(parts, x), _changes(chain, x))
