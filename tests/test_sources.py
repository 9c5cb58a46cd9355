import itertools
import random
import unittest

from keptbudgets.errors import InvalidRows
from keptbudgets.shares import Share
from keptbudgets.sources import Source
from helpers import all_words, any_values, as_lists, is_int, parts_replaced, raised, seen_as
from sources_told import ROWS, chance_told, drawn_rows


def are_states(value):
    return isinstance(value, (tuple, list)) and len(value) > 0 and all(
        isinstance(row, (tuple, list)) and len(row) == 4 and all(is_int(part) and part >= 0 for part in row)
        and row[0] + row[2] > 0 and row[1] < len(value) and row[3] < len(value) for row in value)


class SourceTest(unittest.TestCase):
    def check(self, rows, word):
        share = Source(rows).chance(word)
        chance = chance_told(rows, word)
        self.assertIs(type(share), Share)
        self.assertEqual((share.over, share.under), (chance.numerator, chance.denominator))

    def test_short_words(self):
        rows_to_try = [ROWS, ((1, 0, 1, 0),), ((0, 0, 7, 0),), ((7, 0, 0, 0),), ((1, 1, 0, 0), (0, 0, 1, 0))]
        firsts = itertools.product((0, 1, 2), (0, 1), (1, 2), (0, 1))
        rows_to_try += [(first, (1, 0, 3, 1)) for first in firsts]
        for rows in rows_to_try:
            for length in range(6):
                total = Share(0, 1)
                for word in all_words(length):
                    self.check(rows, word)
                    self.check(as_lists(rows), word)
                    total = total + Source(rows).chance(word)
                self.assertEqual(total, Share(1, 1))

    def test_told_by_hand(self):
        source = Source(rows=ROWS)
        self.assertEqual(source.chance(word=""), Share(1, 1))
        self.assertEqual([source.chance(word) for word in ("0", "1", "00", "01", "010", "0110")],
                         [Share(1, 3), Share(2, 3), Share(0, 1), Share(1, 3), Share(1, 6), Share(0, 1)])
        self.assertEqual([source.chance(word) for word in ("1", "0", "11", "1")],
                         [Share(2, 3), Share(1, 3), Share(4, 9), Share(2, 3)])

    def test_weights_of_0(self):
        source = Source([(0, 0, 3, 1), (4, 1, 0, 0)])
        self.assertEqual(source.chance("1000"), Share(1, 1))
        for word in ("0", "11", "101", "01"):
            share = source.chance(word)
            self.assertEqual((share.over, share.under), (0, 1))

    def test_at_the_sizes(self):
        chance = random.Random(33)
        for _ in range(100):
            rows = drawn_rows(chance, chance.randint(1, 4), 1000)
            for _ in range(5):
                self.check(rows, "".join(chance.choice("01") for _ in range(30)))
        self.check(((999, 0, 1000, 0),), "10" * 15)
        rows = drawn_rows(chance, 4, 1000)
        total = Share(0, 1)
        for word in all_words(8):
            total = total + Source(rows).chance(word)
        self.assertEqual(total, Share(1, 1))

    def test_two_by_turns(self):
        one, other = Source(ROWS), Source(ROWS[:1] * 2)
        for word in all_words(3):
            self.assertEqual(one.chance(word).over, chance_told(ROWS, word).numerator)
            self.assertEqual(other.chance(word).under, chance_told(ROWS[:1] * 2, word).denominator)

    def test_wrong_rows(self):
        tried = any_values()
        for rows in (ROWS, as_lists(ROWS), [(1, 0, 0, 0)], ((0, 0, 1, 0),), ((1, 0, 1, 1), [1, 1, 0, 0])):
            tried.extend(parts_replaced(rows, any_values()))
        tried += [(), [], ((),), ((0, 0, 0, 0),), ((1, 0, 1),), ((1, 0, 1, 0, 1),), ((1, 1, 1, 0),), ((1, 0, 1, 1),)]
        tried += [((1, -1, 1, 0),), ((-1, 0, 2, 0),), ((2, 0, -1, 0),), ((True, 0, 1, 0),), ((1, False, 1, 0),)]
        tried += [(1, 0, 1, 0), "1010", ("1010",), ((1, None, 1, 0),), ((1, 0, 1, 0), (1, 2, 1, 0))]
        tried += [((1, 0, 1, 0), (0, 1, 0, 1))]
        refused = 0
        for value in tried:
            if are_states(value):
                self.assertEqual(Source(value).chance(""), Share(1, 1))
                self.check(value, "01")
            else:
                refused += 1
                self.assertIs(raised(self, InvalidRows, Source, value).rows, value)
                self.assertIs(raised(self, InvalidRows, Source, rows=value).rows, value)
        self.assertGreater(refused, 500)

    def test_rows_stay_as_they_were_and_later_changes_have_no_effect(self):
        rows = as_lists(ROWS)
        before = seen_as(rows)
        source = Source(rows)
        source.chance("0110")
        self.assertEqual(seen_as(rows), before)
        rows[0][0], rows[1][1] = 9, 2
        rows.pop()
        self.assertEqual([source.chance(word) for word in ("0", "011", "0111")],
                         [Share(1, 3), Share(1, 6), Share(1, 6)])


if __name__ == "__main__":
    unittest.main()
