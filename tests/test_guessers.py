import itertools
import random
import unittest
from fractions import Fraction

from keptbudgets.errors import NoProgram
from keptbudgets.guessers import Forgiving, Guesser, errors_of
from keptbudgets.reels import Reels
from keptbudgets.shares import Share
from keptbudgets.stacks import Stacks
from keptbudgets.tables import Table
from keptbudgets.texts import read_reels, read_stacks
from guessers_told import (forgiving_guess, forgiving_weights, guess_of, living, misses, rows_on_time, rows_to_try,
                           weight_of)
from helpers import all_words, any_values, as_fraction, check_wrong_bits, is_bits, raised
from languages import EMPTY, NONE, QUICK, SLOW, SOME, at_the_sizes, is_program, long_table, made, programs_up_to


class GuesserTest(unittest.TestCase):
    def check(self, told, most, patience, row, asked=True):
        guesser = Guesser(made(told), most, patience)
        errors = 0
        for place in range(len(row) + 1):
            seen = row[:place]
            self.assertEqual((guesser.seen, guesser.errors), (seen, errors))
            programs = living(told, most, patience, seen)
            if asked or place == len(row):
                self.assertEqual(guesser.living(), tuple(programs))
                self.assertEqual(as_fraction(self, guesser.weight()), weight_of(programs))
            self.assertTrue(all(errors <= len(program) for program in programs))
            if place < len(row):
                guess = guess_of(told, most, patience, seen)
                errors += guess != int(row[place])
                if asked:
                    self.assertEqual((guesser.guess(), type(guesser.guess())), (guess, int))
                self.assertIsNone(guesser.tell(int(row[place])))

    def test_all_short_rows(self):
        for told in SOME:
            for patience in (1, 2, 3, 7):
                for row in all_words(4):
                    self.check(told, 6, patience, row, asked=patience != 3)

    def test_longer_rows(self):
        for told in SOME:
            for patience, most in ((1, 9), (3, 12), (9, 9)):
                for row in rows_to_try(told, most, 10)[:8]:
                    self.check(told, most, patience, row)

    def test_at_the_sizes(self):
        written = 0
        for told in at_the_sizes(random.Random(29)):
            rows = rows_on_time(told, 12, 60, 40)[:3]
            written += len(rows)
            for row in rows + rows_to_try(told, 12, 40)[:2]:
                self.check(told, 12, 60, row, asked=False)
        self.assertGreater(written, 15)

    def test_told_by_hand(self):
        table = Table([("0", [(1, 2), (1, 2)], 1), ("10", [(0, 1), (1, 3)], None), ("11", [(0, 2), (1, 2)], 1)])
        guesser = Guesser(language=table, most=2, patience=2)
        self.assertEqual((guesser.guess(), guesser.living(), guesser.weight()), (0, ("0", "10", "11"), Share(1, 1)))
        guesser.tell(bit=0)
        self.assertEqual((guesser.living(), guesser.weight(), guesser.errors), (("10", "11"), Share(1, 2), 0))
        self.assertEqual(guesser.guess(), 1)
        guesser.tell(1)
        self.assertEqual((guesser.living(), guesser.weight(), guesser.errors), (("11",), Share(1, 4), 0))
        self.assertEqual((guesser.guess(), guesser.seen), (0, "01"))
        guesser.tell(1)
        self.assertEqual((guesser.living(), guesser.weight(), guesser.errors), ((), Share(0, 1), 1))
        guesser.tell(0)
        self.assertEqual((guesser.living(), guesser.errors, guesser.seen), ((), 1, "0110"))

    def test_ended_silent_and_late_programs(self):
        table = Table([("00", [(1, 1)], 1), ("01", [(1, 1)], None), ("10", [(1, 1), (1, 4)], None), ("110", [], 1),
                       ("111", [], None)])
        for patience, others in ((3, ()), (4, ("10",))):
            guesser = Guesser(table, 3, patience)
            self.assertEqual(guesser.living(), ("00", "01", "10", "110", "111"))
            self.assertEqual(guesser.guess(), 1)
            guesser.tell(1)
            self.assertEqual(guesser.living(), ("00", "01", "10"))
            self.assertEqual(guesser.guess(), 1 if others else 0)
            guesser.tell(1)
            self.assertEqual((guesser.living(), guesser.errors), (others, 0 if others else 1))
            guesser.tell(0)
            self.assertEqual(guesser.living(), ())

    def test_the_first_bit_is_late_by_one_step(self):
        table = Table([("0", [(1, 5)], None), ("1", [(1, 6)], None)])
        for patience, left in ((4, ()), (5, ("0",)), (6, ("0", "1"))):
            guesser = Guesser(table, 1, patience)
            self.assertEqual(guesser.guess(), 1 if left else 0)
            guesser.tell(1)
            self.assertEqual(guesser.living(), left)

    def test_patience_of_1(self):
        guesser = Guesser(Reels(), 12, 1)
        self.assertEqual(guesser.guess(), 0)
        guesser.tell(1)
        programs = [program for program in programs_up_to("reels", 12) if read_first(program) == "1"]
        self.assertEqual(guesser.living(), tuple(programs))

    def test_most_of_0(self):
        for told, found in ((EMPTY, ("",)), (NONE, ()), ("reels", ()), (QUICK, ()), (("pair", EMPTY, EMPTY), ("",))):
            guesser = Guesser(made(told), 0, 2)
            self.assertEqual((guesser.living(), guesser.weight()), (found, Share(len(found), 1)))
            self.check(told, 0, 2, "0101")
            self.check(told, 0, 3, "010")

    def test_equal_weights(self):
        table = Table([("00", [(1, 1)], 1), ("01", [(1, 1)], 1), ("1", [(0, 1)], 1)])
        self.assertEqual(Guesser(table, 2, 1).guess(), 0)
        self.assertEqual(Guesser(table, 1, 1).guess(), 0)
        table = Table([("00", [(1, 1)], 1), ("01", [(1, 1)], 1), ("10", [(0, 1)], 1), ("110", [(0, 1)], 1)])
        self.assertEqual(Guesser(table, 3, 1).guess(), 1)
        self.assertEqual(Guesser(table, 9, 1).guess(), 1)

    def test_living_and_weight_without_being_asked_a_guess(self):
        guesser = Guesser(made(SLOW), 3, 4)
        for bit in (0, 1, 1):
            guesser.tell(bit)
        self.assertEqual((guesser.living(), guesser.errors), (tuple(living(SLOW, 3, 4, "011")), 1))

    def test_two_by_turns(self):
        language = made(("both", QUICK, SLOW))
        told = ("both", QUICK, SLOW)
        one, other = Guesser(language, 4, 3), Guesser(language, 3, 9)
        for place in range(6):
            for _ in range(2):
                self.assertEqual(one.guess(), guess_of(told, 4, 3, "110110"[:place]))
                self.assertEqual(other.guess(), guess_of(told, 3, 9, "101000"[:place]))
            one.tell(int("110110"[place]))
            self.assertEqual(other.living(), tuple(living(told, 3, 9, "101000"[:place])))
            other.tell(int("101000"[place]))
            self.assertEqual(one.living(), tuple(living(told, 4, 3, "110110"[:place + 1])))

    def test_wrong_bits(self):
        guesser = Guesser(made(SLOW), 3, 4)
        check_wrong_bits(self, guesser, guesser.tell)
        self.assertEqual(guesser.guess(), guess_of(SLOW, 3, 4, ""))
        guesser.tell(1)
        check_wrong_bits(self, guesser, guesser.tell)
        for bit in (0, 1):
            self.assertEqual(guesser.guess(), guess_of(SLOW, 3, 4, guesser.seen))
            guesser.tell(bit)
        self.assertEqual(guesser.living(), tuple(living(SLOW, 3, 4, "101")))


def read_first(program):
    """The first bit of a program of reels, if its first step writes it; or the empty word."""
    return {"001": "0", "010": "1"}.get(program[:3], "")


class ForgivingTest(unittest.TestCase):
    def check(self, told, most, patience, row, asked=True):
        guesser = Forgiving(made(told), most, patience)
        errors = 0
        for place in range(len(row) + 1):
            seen = row[:place]
            self.assertEqual((guesser.seen, guesser.errors), (seen, errors))
            weights = forgiving_weights(told, most, patience, seen)
            if asked or place == len(row):
                self.assertEqual(as_fraction(self, guesser.weight()), sum(weights.values(), Fraction(0)))
            for weight in weights.values():
                self.assertLessEqual(4 ** errors * weight, 3 ** errors)
            if place < len(row):
                guess = forgiving_guess(told, most, patience, seen)
                errors += guess != int(row[place])
                if asked:
                    self.assertEqual((guesser.guess(), type(guesser.guess())), (guess, int))
                self.assertIsNone(guesser.tell(int(row[place])))

    def test_all_short_rows(self):
        for told in SOME:
            for patience in (1, 2, 3):
                for row in all_words(3):
                    self.check(told, 6, patience, row, asked=patience != 2)

    def test_longer_rows(self):
        for told in SOME:
            for patience in (1, 2, 4):
                for row in rows_to_try(told, 9, 9)[:3]:
                    self.check(told, 9, patience, row)

    def test_at_the_sizes(self):
        table = long_table(random.Random(30), 40, (1, 2, 60, 61))
        for told, most in ((table, 12), ("reels", 12), ("stacks", 12), (("both", table, "stacks"), 7),
                           (("pair", EMPTY, table), 12)):
            for row in rows_to_try(table, 6, 40)[:2]:
                self.check(told, most, 60, row, asked=False)

    def test_told_by_hand(self):
        table = Table([("0", [(1, 3), (1, 1), (0, 1)], 1), ("10", [(0, 1), (0, 1)], 1), ("11", [(0, 2)], None)])
        guesser = Forgiving(language=table, most=2, patience=2)
        self.assertEqual((guesser.guess(), guesser.weight()), (0, Share(1, 1)))
        guesser.tell(bit=0)
        self.assertEqual((guesser.weight(), guesser.errors, guesser.seen), (Share(3, 4), 0, "0"))
        self.assertEqual(guesser.guess(), 0)
        guesser.tell(1)
        self.assertEqual((guesser.weight(), guesser.errors), (Share(1, 2), 1))
        self.assertEqual(guesser.guess(), 0)
        guesser.tell(0)
        self.assertEqual((guesser.weight(), guesser.errors), (Share(3, 8), 1))

    def test_a_program_that_was_late_may_catch_up(self):
        table = Table([("0", [(1, 3), (0, 1), (1, 1)], None), ("1", [(0, 1), (1, 4), (0, 1)], 1)])
        guesser = Forgiving(table, 1, 2)
        self.assertEqual(guesser.guess(), 0)
        guesser.tell(1)
        self.assertEqual((guesser.weight(), guesser.guess()), (Share(1, 2), 0))
        guesser.tell(0)
        self.assertEqual((guesser.weight(), guesser.guess()), (Share(3, 8), 1))
        guesser.tell(1)
        self.assertEqual((guesser.weight(), guesser.errors), (Share(5, 16), 1))

    def test_most_of_0_and_no_programs(self):
        for told in (EMPTY, NONE, "stacks"):
            self.check(told, 0, 2, "0110")
        guesser = Forgiving(made(NONE), 12, 60)
        self.assertEqual((guesser.weight(), guesser.guess(), guesser.seen, guesser.errors), (Share(0, 1), 0, "", 0))
        guesser.tell(1)
        self.assertEqual((guesser.weight(), guesser.guess(), guesser.seen, guesser.errors), (Share(0, 1), 0, "1", 1))

    def test_two_by_turns(self):
        told = ("both", QUICK, SLOW)
        language = made(told)
        one, other = Forgiving(language, 4, 1), Forgiving(language, 3, 3)
        for place in range(6):
            for _ in range(2):
                self.assertEqual(one.guess(), forgiving_guess(told, 4, 1, "110110"[:place]))
                self.assertEqual(other.guess(), forgiving_guess(told, 3, 3, "101000"[:place]))
            one.tell(int("110110"[place]))
            self.assertEqual(other.seen, "101000"[:place])
            other.tell(int("101000"[place]))
            self.assertEqual(as_fraction(self, one.weight()),
                             sum(forgiving_weights(told, 4, 1, "110110"[:place + 1]).values()))

    def test_wrong_bits(self):
        guesser = Forgiving(made(SLOW), 3, 2)
        check_wrong_bits(self, guesser, guesser.tell)
        guesser.tell(1)
        check_wrong_bits(self, guesser, guesser.tell)
        self.assertEqual(guesser.guess(), forgiving_guess(SLOW, 3, 2, "1"))


class ErrorsOfTest(unittest.TestCase):
    def test_short_programs_and_rows(self):
        for told in SOME:
            language = made(told)
            for program in programs_up_to(told, 6):
                for patience, row in itertools.product((1, 2, 5), ["", "0", "1"] + all_words(3)):
                    self.assertEqual(errors_of(language, program, patience, row), misses(told, program, patience, row))

    def test_at_the_sizes(self):
        table = long_table(random.Random(31), 40, (1, 2, 60, 61, 200))
        language = made(("both", "stacks", ("pair", table, QUICK)))
        for program in programs_up_to(table, 12)[::9]:
            for row in ("0110100" * 6)[:40], "0" * 40, "1" * 40:
                self.assertEqual(errors_of(made(table), program, 60, row), misses(table, program, 60, row))
                self.assertEqual(errors_of(language, "1" + program + "111", 60, row), misses(table, program, 60, row))
        self.assertEqual(errors_of(Reels(), read_reels("0[~*."), 21, "0110100110010110" + "1001011001101001"), 0)

    def test_told_by_hand(self):
        table = Table([("0", [(1, 3), (0, 1), (1, 1)], None), ("1", [], 1)])
        self.assertEqual(errors_of(table, "0", 2, "101"), 1)
        self.assertEqual(errors_of(language=table, program="0", patience=3, row="101"), 0)
        self.assertEqual(errors_of(table, "0", 1, "101"), 3)
        self.assertEqual(errors_of(table, "0", 9, "0100"), 4)
        self.assertEqual(errors_of(table, "1", 9, "0100"), 4)
        self.assertEqual(errors_of(table, "1", 9, ""), 0)
        self.assertEqual(errors_of(Stacks(), read_stacks("1!0!."), 2, "10"), 0)
        self.assertEqual(errors_of(Stacks(), read_stacks("1!0!."), 1, "10"), 2)

    def test_what_is_no_program(self):
        for told in (QUICK, NONE, "reels", "stacks", ("both", QUICK, "reels"), ("pair", QUICK, SLOW)):
            language = made(told)
            for value in any_values() + ["0", "1", "00", "0" * 40, ["0"]]:
                if not (is_bits(value) and len(value) < 20 and is_program(told, value)):
                    self.assertIs(raised(self, NoProgram, errors_of, language, value, 3, "01").program, value)
                    error = raised(self, NoProgram, errors_of, language=language, program=value, patience=1, row="")
                    self.assertIs(error.program, value)


if __name__ == "__main__":
    unittest.main()
