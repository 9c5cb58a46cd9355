import unittest
from fractions import Fraction
from math import gcd

from keptbudgets.errors import InvalidNumber
from keptbudgets.shares import Share, half_of
from helpers import any_values, raised

OVERS = list(range(-7, 8)) + [12, -30, 10 ** 399, -(10 ** 399) + 7]
UNDERS = [k for k in range(-6, 7) if k != 0] + [10, -45, 10 ** 399, -(2 ** 1300)]


class ShareTest(unittest.TestCase):
    def check(self, share, fraction):
        self.assertIs(type(share), Share)
        self.assertEqual((share.over, share.under), (fraction.numerator, fraction.denominator))
        self.assertIs(type(share.over), int)
        self.assertIs(type(share.under), int)

    def test_it_is_kept_in_lowest_terms_with_under_above_0(self):
        for over in OVERS:
            for under in UNDERS:
                share = Share(over, under)
                self.check(share, Fraction(over, under))
                self.assertGreater(share.under, 0)
                self.assertEqual(gcd(share.over, share.under), 1)
        self.assertEqual((Share(-2, -4).over, Share(-2, -4).under), (1, 2))
        self.assertEqual((Share(2, -4).over, Share(2, -4).under), (-1, 2))
        self.assertEqual((Share(0, -9).over, Share(0, -9).under), (0, 1))

    def test_arguments_by_name(self):
        self.check(Share(over=6, under=-4), Fraction(-3, 2))
        self.check(Share(6, under=4), Fraction(3, 2))
        self.check(half_of(length=3), Fraction(1, 8))
        self.assertIs(Share(1, 3).is_below(other=Share(1, 2)), True)

    def test_under_0_is_refused(self):
        for over in OVERS:
            self.assertEqual(raised(self, InvalidNumber, Share, over, 0).number, 0)
            self.assertIs(type(raised(self, InvalidNumber, Share, over=over, under=0).number), int)

    def test_signs(self):
        pairs = [(over, under) for over in OVERS[::3] + [0, 1] for under in UNDERS[::2]]
        for one in pairs:
            for other in pairs:
                left, right = Share(*one), Share(*other)
                first, second = Fraction(*one), Fraction(*other)
                self.check(left + right, first + second)
                self.check(left - right, first - second)
                self.check(left * right, first * second)
                self.assertIs(left == right, first == second)
                self.assertIs(left != right, first != second)
                self.assertIs(left.is_below(right), first < second)
                self.check(left, first)
                self.check(right, second)

    def test_with_itself(self):
        share = Share(3, 7)
        self.check(share + share, Fraction(6, 7))
        self.check(share - share, Fraction(0))
        self.check(share * share, Fraction(9, 49))
        self.assertIs(share.is_below(share), False)
        self.assertIs(share == share, True)

    def test_it_equals_nothing_that_is_no_share(self):
        for over in (0, 1, 5, -1):
            share = Share(over, 1)
            for value in any_values() + [Fraction(over), float(over), over, (over, 1), [over, 1], object(), {}]:
                self.assertIs(share == value, False)
                self.assertIs(share != value, True)
                self.assertIs(value == share, False)
                self.assertIs(value != share, True)

    def test_half_of(self):
        for length in range(201):
            self.check(half_of(length), Fraction(1, 2 ** length))
        self.assertEqual(half_of(0), Share(1, 1))

    def test_sums_of_many_shares(self):
        total = Share(0, 1)
        for length in range(1, 201):
            total = total + half_of(length)
        self.check(total, 1 - Fraction(1, 2 ** 200))
        self.assertIs(total.is_below(Share(1, 1)), True)
        self.assertIs(Share(1, 1).is_below(total), False)
        self.assertEqual(total + half_of(200), Share(1, 1))


if __name__ == "__main__":
    unittest.main()
