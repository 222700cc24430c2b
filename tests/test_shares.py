"""[9]: shares, judged by Python's own fractions."""

import unittest
from fractions import Fraction

from neverowing.errors import BadShare
from neverowing.shares import Share
from tests.helpers import error_of, example, is_plain_integer, odd_values

BIG = 10 ** 60 + 7


def pairs():
    tops = (-BIG, -12, -7, -1, 0, 1, 2, 6, 9, BIG)
    bottoms = (-BIG * 3, -9, -4, -1, 1, 2, 6, 35, BIG * 2)
    return [(top, bottom) for top in tops for bottom in bottoms]


def shares():
    return [Share(top, bottom) for top, bottom in pairs()]


def operands():
    return shares() + [-BIG, -3, -1, 0, 1, 2, 7, BIG]


def exact(value):
    """The value as a fraction of Python's own."""
    return Fraction(value.top, value.bottom) if isinstance(value, Share) else Fraction(value)


class ShareTest(unittest.TestCase):
    def check(self, share, fraction):
        self.assertIs(type(share), Share)
        self.assertIs(type(share.top), int)
        self.assertIs(type(share.bottom), int)
        self.assertEqual((share.top, share.bottom), (fraction.numerator, fraction.denominator))

    def test_example_of_the_interface(self):
        share = 1 - Share(2, -6)
        told = [share.top, share.bottom, share == Share(4, 3), share.below(1), share == 1]
        self.assertEqual(told, [4, 3, True, False, False])

    def test_lowest_terms_with_the_bottom_above_zero(self):
        for top, bottom in pairs():
            self.check(Share(top, bottom), Fraction(top, bottom))

    def test_bottom_is_one_by_default(self):
        for top in (-BIG, -1, 0, 1, 5, BIG):
            self.check(Share(top), Fraction(top))

    def test_share_of_zero(self):
        for bottom in (-7, -1, 1, 2, BIG):
            share = Share(0, bottom)
            self.assertEqual((share.top, share.bottom), (0, 1))

    def test_arguments_by_name(self):
        self.check(Share(top=6, bottom=4), Fraction(3, 2))
        self.check(Share(bottom=4, top=6), Fraction(3, 2))
        self.check(Share(top=6), Fraction(6))
        self.assertTrue(Share(1).below(x=2))

    def test_wrong_top(self):
        for value in odd_values():
            if is_plain_integer(value):
                continue
            self.assertEqual(error_of(Share, value), (BadShare, "top"))
            self.assertEqual(error_of(Share, value, 3), (BadShare, "top"))
            self.assertEqual(error_of(Share, top=value, bottom=0), (BadShare, "top"))

    def test_wrong_bottom(self):
        for value in odd_values():
            if is_plain_integer(value) and value != 0:
                continue
            self.assertEqual(error_of(Share, 3, value), (BadShare, "bottom"))
            self.assertEqual(error_of(Share, 0, bottom=value), (BadShare, "bottom"))

    def test_top_is_judged_before_bottom(self):
        for top in (None, True, "1", Share(1)):
            for bottom in (None, False, 0, "1", Share(1)):
                self.assertEqual(error_of(Share, top, bottom), (BadShare, "top"))

    def test_sums(self):
        for share in shares():
            for x in operands():
                self.check(share + x, exact(share) + exact(x))
                self.check(x + share, exact(share) + exact(x))

    def test_differences(self):
        for share in shares():
            for x in operands():
                self.check(share - x, exact(share) - exact(x))
                self.check(x - share, exact(x) - exact(share))

    def test_products(self):
        for share in shares():
            for x in operands():
                self.check(share * x, exact(share) * exact(x))
                self.check(x * share, exact(share) * exact(x))

    def test_negative(self):
        for share in shares():
            self.check(-share, -exact(share))

    def test_operators_change_nothing(self):
        share, other = Share(3, 4), Share(-5, 6)
        for _ in (share + other, share - other, share * other, -share, 2 + share, 2 - share, 2 * share,
                  share == other, share.below(other)):
            self.assertEqual((share.top, share.bottom, other.top, other.bottom), (3, 4, -5, 6))

    def test_sum_of_a_list(self):
        self.check(sum([Share(1, 2), Share(1, 3), Share(1, 6)]), Fraction(1))

    def test_equal_just_by_top_and_bottom(self):
        for share in shares():
            for other in shares():
                self.assertIs(share == other, exact(share) == exact(other))
                self.assertIs(share != other, exact(share) != exact(other))

    def test_equal_to_nothing_else(self):
        for share in (Share(0), Share(1), Share(-1), Share(2), Share(1, 2)):
            for value in odd_values():
                if isinstance(value, Share):
                    continue
                self.assertIs(share == value, False)
                self.assertIs(value == share, False)
            self.assertIs(share == exact(share), False)
            self.assertIs(share == (share.top, share.bottom), False)
            self.assertIs(share == example(), False)

    def test_below(self):
        for share in shares():
            for x in operands():
                self.assertIs(share.below(x), exact(share) < exact(x))

    def test_below_itself(self):
        self.assertIs(Share(1).below(1), False)
        self.assertIs(Share(1, 2).below(Share(2, 4)), False)
        self.assertIs(Share(-1, 2).below(0), True)


if __name__ == "__main__":
    unittest.main()
