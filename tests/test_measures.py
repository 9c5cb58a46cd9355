import itertools
import random
import unittest

from keptbudgets.budgets import can_keep
from keptbudgets.joins import Both, Pair
from keptbudgets.measures import distance, rows_of, shortest
from keptbudgets.reels import Reels
from keptbudgets.stacks import Stacks
from keptbudgets.tables import Table
from guessers_told import on_time
from helpers import check_calls, words_up_to
from languages import EMPTY, NONE, QUICK, SLOW, SOME, at_the_sizes, long_table, made, programs_up_to
from least_told import least_told, tellers

GIVEN = ("", "1", "0110")


def length_told(told, word, most, steps, given=""):
    program = least_told(told, word, most, steps, given)
    return None if program is None else len(program)


def rows_told(told, most, patience, many):
    return tuple((program, on_time(told, program, patience)[:many]) for program in programs_up_to(told, most)
                 if len(on_time(told, program, patience)) >= many)


def added(one, other):
    """The sum of two lengths, None if one is None."""
    return None if one is None or other is None else one + other


class ShortestTest(unittest.TestCase):
    def test_short_programs(self):
        for told in SOME:
            for given, steps, most in itertools.product(GIVEN, (0, 2, 30), (0, 3, 9)):
                words = list(tellers(told, 9, 30, given))[:4]
                for word in words + ["0", "111"]:
                    named = {"language": made(told), "word": word, "most": most, "steps": steps, "given": given}
                    check_calls(self, shortest, named, length_told(told, word, most, steps, given), by_name=["given"])

    def test_told_by_hand(self):
        self.assertEqual(shortest(language=Reels(), word="0101", most=12, steps=6), 12)
        self.assertIsNone(shortest(Reels(), "0101", 11, 50))
        self.assertIsNone(shortest(Reels(), "0101", 12, 4))
        self.assertEqual(shortest(Stacks(), "01", 12, 3, given="01"), 9)
        self.assertIsNone(shortest(Stacks(), "01", 12, 3))
        self.assertEqual(shortest(Table([("", [(1, 1)], 1)]), "1", 0, 2), 0)
        with self.assertRaises(TypeError):
            shortest(Stacks(), "01", 12, 3, "01")

    def test_at_the_sizes(self):
        table = long_table(random.Random(44), 40, (199, 200))
        for told in at_the_sizes(random.Random(45))[:4] + (table, ("pair", EMPTY, table)):
            for word in list(tellers(told, 12, 10000, ""))[-1:] + ["01" * 20]:
                self.assertEqual(shortest(made(told), word, 12, 10000), length_told(told, word, 12, 10000))

    def test_in_both(self):
        found = {}
        for one, other in itertools.product((QUICK, SLOW, EMPTY, NONE, "reels", "stacks"), repeat=2):
            both = Both(made(one), made(other))
            for most, steps, given in ((0, 4, ""), (3, 9, "1"), (6, 20, "01")):
                words = list(tellers(one, most, steps, given))[:3] + list(tellers(other, most, steps, given))[:3]
                for word in words + ["0", "1010"]:
                    sides = [shortest(made(side), word, most, steps, given=given) for side in (one, other)]
                    lengths = [length for length in sides if length is not None]
                    expected = min(lengths) + 1 if lengths else None
                    self.assertEqual(shortest(both, word, most + 1, steps, given=given), expected)
                    kind = tuple(length is None for length in sides)
                    found[kind] = found.get(kind, 0) + 1
        self.assertEqual(len(found), 4)
        self.assertGreater(min(found.values()), 20)

    def test_in_pair(self):
        tried = 0
        for one, other in itertools.product((QUICK, SLOW, EMPTY, "reels", "stacks"), repeat=2):
            pair = Pair(made(one), made(other))
            for given in ("", "01"):
                for x in list(tellers(one, 6, 9, given))[:3]:
                    for y in list(tellers(other, 3, 12, given))[:3]:
                        tried += 1
                        length = shortest(pair, x + y, 9, 21, given=given)
                        self.assertLessEqual(length, length_told(one, x, 6, 9, given)
                                             + length_told(other, y, 3, 12, given))
        self.assertGreater(tried, 50)


class DistanceTest(unittest.TestCase):
    def test_short_words(self):
        found = {}
        for told in SOME:
            for most, steps in ((0, 3), (4, 9), (9, 12)):
                for first, second in itertools.product(("", "0", "1", "01", "11"), repeat=2):
                    forth = length_told(told, first, most, steps, second)
                    back = length_told(told, second, most, steps, first)
                    expected = None if added(forth, back) is None else max(forth, back)
                    named = {"language": made(told), "first": first, "second": second, "most": most, "steps": steps}
                    check_calls(self, distance, named, expected)
                    kind = (forth is None, back is None, (forth or 0) < (back or 0))
                    found[kind] = found.get(kind, 0) + 1
        # None on one side, on the other one, on both; and numbers on both, with either one above the other.
        self.assertEqual({kind[:2] for kind in found}, set(itertools.product((True, False), repeat=2)))
        self.assertTrue({(False, False, True), (False, False, False)} <= set(found))

    def test_told_by_hand(self):
        self.assertEqual(distance(language=Stacks(), first="01", second="01", most=9, steps=3), 9)
        self.assertEqual(distance(Stacks(), "", "1", 9, 9), 9)
        self.assertIsNone(distance(Stacks(), "", "1", 6, 9))
        self.assertIsNone(distance(Stacks(), "1", "", 6, 9))
        self.assertEqual(distance(Stacks(), "", "", 3, 1), 3)
        self.assertEqual(distance(Stacks(), "1", "11", 12, 9), 12)
        table = Table([("0", [(1, 1)], 1), ("10", [(0, 1), (0, 1)], 1)])
        self.assertEqual((distance(table, "1", "00", 2, 3), distance(table, "00", "1", 2, 3)), (2, 2))
        self.assertIsNone(distance(table, "1", "00", 1, 3))
        self.assertIsNone(distance(table, "1", "00", 2, 2))
        self.assertIsNone(distance(table, "00", "1", 2, 2))


class RowsOfTest(unittest.TestCase):
    def check(self, told, most, patience, many):
        rows = rows_told(told, most, patience, many)
        self.assertEqual(rows_of(made(told), most, patience, many), rows)
        self.assertIs(can_keep([len(program) for program, _ in rows]), True)
        return rows

    def test_short_programs(self):
        for told in SOME:
            for most, patience, many in itertools.product((0, 3, 6, 9), (1, 2, 3, 9), (0, 1, 2, 4)):
                rows = self.check(told, most, patience, many)
                if (most, many) == (6, 1):
                    named = {"language": made(told), "most": most, "patience": patience, "many": many}
                    check_calls(self, rows_of, named, rows)

    def test_many_of_0(self):
        for told in SOME:
            programs = tuple((program, "") for program in programs_up_to(told, 7))
            self.assertEqual(rows_of(made(told), 7, 1, 0), programs)

    def test_bits_just_within_patience_and_one_step_late(self):
        table = Table([("0", [(1, 2), (0, 3)], 1), ("10", [(0, 4), (0, 1), (1, 2)], None), ("11", [(1, 1), (1, 5)], 1)])
        self.assertEqual(rows_of(language=table, most=2, patience=3, many=2), (("0", "10"),))
        self.assertEqual(rows_of(table, 2, 4, 2), (("0", "10"), ("10", "00")))
        self.assertEqual(rows_of(table, 2, 5, 2), (("0", "10"), ("10", "00"), ("11", "11")))
        self.assertEqual(rows_of(table, 2, 2, 1), (("0", "1"), ("11", "1")))
        self.assertEqual(rows_of(table, 2, 1, 1), (("11", "1"),))

    def test_programs_that_write_just_many_bits_and_one_more(self):
        table = Table([("1", [(1, 1), (0, 1)], 1), ("01", [(1, 1), (1, 1)], None), ("001", [(0, 1)] * 3, 1),
                       ("0001", [(0, 1)], 1)])
        self.assertEqual(rows_of(table, 4, 1, 2), (("1", "10"), ("01", "11"), ("001", "00")))
        self.assertEqual(rows_of(table, 4, 1, 1), (("1", "1"), ("01", "1"), ("001", "0"), ("0001", "0")))
        self.assertEqual(rows_of(table, 4, 1, 3), (("001", "000"),))
        self.assertEqual(rows_of(table, 2, 9, 3), ())
        # The last bit, written within patience, is followed by one that is late, or by none.
        late = Table([("0", [(1, 2), (1, 3)], 1), ("1", [(0, 2)], 1)])
        self.assertEqual(rows_of(late, 1, 2, 1), (("0", "1"), ("1", "0")))

    def test_at_the_sizes(self):
        table = long_table(random.Random(46), 40, (1, 59, 60, 61))
        found = 0
        for told in at_the_sizes(random.Random(47)) + (table, ("pair", QUICK, table)):
            found += len(self.check(told, 12, 60, 40))
            self.check(told, 12, 60, 3)
        self.assertGreater(found, 100)

    def test_kinds_of_what_is_returned(self):
        rows = rows_of(Reels(), 6, 3, 2)
        self.assertIs(type(rows), tuple)
        self.assertTrue(rows and all(type(pair) is tuple for pair in rows))
        self.assertEqual(rows_of(made(NONE), 12, 3, 0), ())
        self.assertEqual(words_up_to(0), [""])


if __name__ == "__main__":
    unittest.main()
