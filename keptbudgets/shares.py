"""Fractions of two integers."""

from math import gcd, lcm

from keptbudgets.errors import InvalidNumber


class Share:
    """The fraction over / under, in lowest terms, with under above 0."""

    def __init__(self, over, under):
        if under == 0:
            raise InvalidNumber(under)
        common = gcd(over, under)
        if under < 0:
            common = -common
        self.over = over // common
        self.under = under // common

    def __add__(self, other):
        return Share(self.over * other.under + other.over * self.under, self.under * other.under)

    def __sub__(self, other):
        return Share(self.over * other.under - other.over * self.under, self.under * other.under)

    def __mul__(self, other):
        return Share(self.over * other.over, self.under * other.under)

    def __eq__(self, other):
        return isinstance(other, Share) and self.over == other.over and self.under == other.under

    def is_below(self, other):
        """Whether this share is less than the other one."""
        return self.over * other.under < other.over * self.under


def half_of(length):
    """The share 1 / 2 ** length."""
    return Share(1, 1 << length)


def sum_of_halves(lengths):
    """The share that is the sum of 1 / 2 ** length over the lengths."""
    longest = max(lengths, default=0)
    over = sum([1 << (longest - length) for length in lengths])
    return Share(over, 1 << longest)


def sum_of_shares(shares):
    """The sum of shares; that of none is 0."""
    # One lower part for all: to bring each sum on the way into lowest terms would take long.
    under = 1
    for share in shares:
        under = lcm(under, share.under)
    return Share(sum([share.over * (under // share.under) for share in shares]), under)


def greatest_of(shares):
    """The greatest of at least one share."""
    greatest = shares[0]
    for share in shares:
        if greatest.is_below(share):
            greatest = share
    return greatest
