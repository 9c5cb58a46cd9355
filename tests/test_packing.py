import random
import unittest
from fractions import Fraction

from keptbudgets.packing import chance_of, low_of, pack, unpack
from keptbudgets.shares import Share
from keptbudgets.tables import Table
from guessers_told import chance_of as chance_told, living, rows_on_time, rows_to_try
from helpers import all_words, as_fraction, words_up_to
from languages import EMPTY, NONE, QUICK, SLOW, SOME, at_the_sizes, made
from packed_told import RESTS, check_packed


def low_told(told, most, patience, row):
    """By its first words: the sum over all rows below of the same length."""
    rows = all_words(len(row))
    return sum((chance_told(told, most, patience, other) for other in rows[:rows.index(row)]), Fraction(0))


def low_by_places(told, most, patience, row):
    places = [place for place, sign in enumerate(row) if sign == "1"]
    return sum((chance_told(told, most, patience, row[:place] + "0") for place in places), Fraction(0))


class PackingTest(unittest.TestCase):
    def check(self, told, most, patience, row, low):
        language = made(told)
        chance = chance_told(told, most, patience, row)
        self.assertEqual(as_fraction(self, chance_of(language, most, patience, row)), chance)
        self.assertEqual(as_fraction(self, low_of(language, most, patience, row)), low)
        packed = pack(language, most, patience, row)
        check_packed(self, packed, low, chance)
        self.assertLessEqual(len(packed), len(row) + 2)
        for program in living(told, most, patience, row)[:1]:
            self.assertLessEqual(len(packed), len(program) + 2)
            self.assertGreaterEqual(chance, Fraction(1, 2 ** (len(program) + 1)))
        for rest in RESTS:
            found = unpack(language, most, patience, len(row), packed + rest)
            self.assertEqual((found, type(found)), ((row, rest), tuple))
        return packed

    def test_all_short_rows(self):
        for told in SOME:
            for most, patience, longest in ((6, 2, 4), (12, 7, 2)):
                for length in range(longest + 1):
                    words = [self.check(told, most, patience, row, low_told(told, most, patience, row))
                             for row in all_words(length)]
                    for one, other in zip(sorted(words), sorted(words)[1:]):
                        self.assertFalse(other.startswith(one))

    def test_chances_add_up(self):
        for told in SOME:
            language = made(told)
            for row in words_up_to(3):
                whole, zero, one = [chance_of(language, 6, 2, row + sign) for sign in ("", "0", "1")]
                self.assertEqual(zero + one, whole)
                self.assertEqual(low_of(language, 6, 2, row + "0"), low_of(language, 6, 2, row))
                self.assertEqual(low_of(language, 6, 2, row + "1"), low_of(language, 6, 2, row) + zero)

    def test_longer_rows(self):
        for told in SOME:
            for patience, most in ((1, 9), (3, 12)):
                for row in rows_to_try(told, most, 8)[:3]:
                    self.check(told, most, patience, row, low_told(told, most, patience, row))

    def test_at_the_sizes(self):
        written = 0
        for told in at_the_sizes(random.Random(32)):
            rows = rows_on_time(told, 12, 60, 40)[:2]
            written += len(rows)
            for row in rows + rows_to_try(told, 12, 40)[:1] + ["1" * 40]:
                self.check(told, 12, 60, row, low_by_places(told, 12, 60, row))
        self.assertGreater(written, 12)

    def test_told_by_hand(self):
        table = Table([("0", [(1, 1), (0, 1)], 1), ("11", [(1, 2)], 1)])
        self.assertEqual(chance_of(language=table, most=2, patience=2, row="1"), Share(3, 4))
        self.assertEqual(low_of(language=table, most=2, patience=2, row="1"), Share(1, 4))
        self.assertEqual(chance_of(table, 2, 2, "10"), Share(5, 8))
        self.assertEqual(chance_of(table, 2, 2, "11"), Share(1, 8))
        self.assertEqual(chance_of(table, 2, 1, "0"), Share(1, 4))
        self.assertEqual(low_of(table, 2, 2, "11"), Share(7, 8))
        self.assertEqual(pack(language=table, most=2, patience=2, row="10"), "01")
        self.assertEqual(pack(table, 2, 2, "11"), "111")
        self.assertEqual(unpack(language=table, most=2, patience=2, many=2, text="111001"), ("11", "001"))
        self.assertEqual(chance_of(table, 2, 2, "100"), Share(5, 16))
        mixed = Table([("0", [(0, 1)], 1), ("10", [(1, 1)], 1), ("11", [(1, 1)], None)])
        self.assertEqual(chance_of(mixed, 2, 1, "1"), Share(1, 2))
        self.assertEqual(chance_of(mixed, 1, 1, "1"), Share(1, 4))

    def test_the_empty_row(self):
        for told in SOME:
            language = made(told)
            self.assertEqual(chance_of(language, 6, 2, ""), Share(1, 1))
            self.assertEqual(low_of(language, 6, 2, ""), Share(0, 1))
            self.assertEqual(pack(language, 6, 2, ""), "")
            for rest in RESTS:
                self.assertEqual(unpack(language, 6, 2, 0, rest), ("", rest))

    def test_rows_along_which_no_program_is_living(self):
        for told, most in ((NONE, 12), ("reels", 0), (SLOW, 1), (EMPTY, 12)):
            language = made(told)
            for row in ("1", "111", "1" * 40):
                if told != EMPTY:
                    self.assertEqual(chance_of(language, most, 5, row), Share(1, 2 ** len(row)))
                    self.assertEqual(pack(language, most, 5, row), row)
                self.check(told, most, 5, row, low_by_places(told, most, 5, row))

    def test_late_ended_and_silent_programs(self):
        late = ("table", (("0", ((1, 2), (1, 3)), 1), ("10", ((1, 2),), None), ("11", (), 1)))
        for patience in (1, 2, 3):
            for row in words_up_to(3):
                self.check(late, 2, patience, row, low_told(late, 2, patience, row))
        self.assertEqual(chance_of(made(late), 2, 1, "1"), Share(1, 2))
        self.assertEqual(chance_of(made(late), 2, 2, "1"), Share(3, 4))
        self.assertEqual(chance_of(made(late), 2, 2, "11"), Share(3, 8))
        self.assertEqual(chance_of(made(late), 2, 3, "11"), Share(5, 8))

    def test_rows_packed_one_behind_the_other(self):
        language = made(("both", QUICK, "reels"))
        rows = ["0110", "0000", "1111", "", "101010", "11"]
        text = "".join(pack(language, 10, 4, row) for row in rows)
        for row in rows:
            found, text = unpack(language, 10, 4, len(row), text)
            self.assertEqual(found, row)
        self.assertEqual(text, "")


if __name__ == "__main__":
    unittest.main()
