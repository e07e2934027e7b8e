"""Ratios: exact fractions."""

from math import gcd

from steppedtests.errors import ZeroBottom


class Ratio:
    """A fraction in lowest terms with a bottom above 0."""

    def __init__(self, top, bottom=1):
        if bottom == 0:
            raise ZeroBottom()
        shared = gcd(top, bottom) if bottom > 0 else -gcd(top, bottom)
        self.top = top // shared
        self.bottom = bottom // shared

    def __add__(self, other):
        more = ratio_of(other)
        return Ratio(self.top * more.bottom + more.top * self.bottom, self.bottom * more.bottom)

    def __radd__(self, other):
        return self + other

    def __neg__(self):
        return Ratio(-self.top, self.bottom)

    def __sub__(self, other):
        return self + -ratio_of(other)

    def __rsub__(self, other):
        return -self + other

    def __mul__(self, other):
        factor = ratio_of(other)
        return Ratio(self.top * factor.top, self.bottom * factor.bottom)

    def __rmul__(self, other):
        return self * other

    def over(self, other):
        """The quotient by a ratio or an integer."""
        divisor = ratio_of(other)
        return Ratio(self.top * divisor.bottom, self.bottom * divisor.top)

    def __eq__(self, other):
        if isinstance(other, Ratio):
            return self.top == other.top and self.bottom == other.bottom
        return isinstance(other, int) and self.bottom == 1 and self.top == other

    def __lt__(self, other):
        return (self - other).top < 0

    def __le__(self, other):
        return (self - other).top <= 0

    def __gt__(self, other):
        return (self - other).top > 0

    def __ge__(self, other):
        return (self - other).top >= 0

    def __bool__(self):
        return bool(self.top != 0)

    def __str__(self):
        if self.bottom == 1:
            return str(self.top)
        return f"{self.top}/{self.bottom}"


def ratio_of(value):
    """The ratio or the integer as a ratio."""
    return value if isinstance(value, Ratio) else Ratio(value)
