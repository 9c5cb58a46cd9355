"""What point [27] says of the packed word of a stretch."""

from fractions import Fraction

from helpers import is_bits, words_up_to

RESTS = ("", "0", "1", "10", "0" * 40, "1" * 40, "01" * 20)


def stretch_of(word):
    first = Fraction(int("0" + word, 2), 2 ** len(word))
    return first, first + Fraction(1, 2 ** len(word))


def packed_told(low, chance):
    """The first word, going through all of them up to 9 bits; None if it is longer."""
    for word in words_up_to(9):
        first, last = stretch_of(word)
        if low <= first and last <= low + chance:
            return word
    return None


def check_packed(test, packed, low, chance):
    """It is the first word, ascending, whose stretch lies within that from low on."""
    test.assertTrue(is_bits(packed))
    first, last = stretch_of(packed)
    test.assertTrue(low <= first and last <= low + chance)
    expected = packed_told(low, chance)
    if expected is not None:
        test.assertEqual(packed, expected)
        return
    test.assertGreater(len(packed), 9)
    # No word of the same length before it has its stretch there, and no shorter one.
    test.assertLess(first - Fraction(1, 2 ** len(packed)), low)
    for length in range(len(packed)):
        value = -(-low.numerator * 2 ** length // low.denominator)
        test.assertGreater(Fraction(value + 1, 2 ** length), low + chance)
