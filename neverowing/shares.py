"""Exact fractions."""

from math import gcd

from neverowing.errors import BadShare
from neverowing.kinds import is_integer


class Share:
    """An exact fraction, in lowest terms, with the bottom above 0."""

    def __init__(self, top, bottom=1):
        if not is_integer(top):
            raise BadShare("top")
        if not is_integer(bottom) or bottom == 0:
            raise BadShare("bottom")
        # The sign moves to the top, so that equal shares have equal parts.
        common = gcd(top, bottom) if bottom > 0 else -gcd(top, bottom)
        self.top = top // common
        self.bottom = bottom // common

    def __add__(self, other):
        if not is_operand(other):
            return NotImplemented
        top, bottom = terms_of(other)
        return Share(self.top * bottom + top * self.bottom, self.bottom * bottom)

    def __radd__(self, other):
        return self + other

    def __sub__(self, other):
        if not is_operand(other):
            return NotImplemented
        return self + -other

    def __rsub__(self, other):
        return -self + other

    def __mul__(self, other):
        if not is_operand(other):
            return NotImplemented
        top, bottom = terms_of(other)
        return Share(self.top * top, self.bottom * bottom)

    def __rmul__(self, other):
        return self * other

    def __neg__(self):
        return Share(-self.top, self.bottom)

    def __eq__(self, other):
        return isinstance(other, Share) and self.top == other.top and self.bottom == other.bottom

    def below(self, x):
        """True if the share is less than x, a share or an integer."""
        top, bottom = terms_of(x)
        return self.top * bottom < top * self.bottom


def is_operand(value):
    """True for what a share can be added to and multiplied with."""
    return isinstance(value, Share) or is_integer(value)


def terms_of(value):
    """The pair of the top and the bottom of a share or an integer."""
    if isinstance(value, Share):
        return value.top, value.bottom
    return value, 1
