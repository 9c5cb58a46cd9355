import itertools
import random
import unittest

from keptbudgets.errors import InvalidBudgets, InvalidRows, NoProgram
from keptbudgets.needs import least_budget, least_errors, least_more
from helpers import (all_words, any_values, are_numbers, are_rows, check_refused, is_int, raised, seen_as,
                     wrong_values)
from games_told import GameModel, drawn_game, larger_games, small_games


def keeps(rows, budgets, flips=None):
    return GameModel(rows, budgets, flips).keeps("", 0)


class LeastMoreTest(unittest.TestCase):
    def check(self, rows, budgets, flips):
        more = least_more(rows, budgets, flips=flips)
        self.assertIs(type(more), int)
        self.assertEqual(more, max(0, GameModel(rows, budgets, flips).need()))
        self.assertTrue(keeps(rows, [budget + more for budget in budgets], flips))
        if more:
            self.assertFalse(keeps(rows, [budget + more - 1 for budget in budgets], flips))

    def test_small_games(self):
        for rows, budgets, flips in small_games():
            self.check(rows, budgets, flips)

    def test_up_to_the_sizes(self):
        for rows, budgets, flips in larger_games(15):
            self.check(rows, budgets, flips)

    def test_told_by_hand(self):
        self.assertEqual(least_more(("00", "01", "10", "11"), (0, 0, 0, 0)), 2)
        self.assertEqual(least_more(rows=["00", "01", "10", "11"], budgets=[1, 1, 1, 1], flips=None), 1)
        self.assertEqual(least_more(("00", "01"), (3, 3)), 0)
        self.assertEqual(least_more(("000",), (0,), flips=[12]), 3)
        self.assertEqual(least_more(("", ""), (0, 5)), 0)


class LeastErrorsTest(unittest.TestCase):
    def check(self, rows, flips):
        least = least_errors(rows, flips=flips)
        self.assertIs(type(least), int)
        self.assertTrue(keeps(rows, [least] * len(rows), flips))
        if least:
            self.assertFalse(keeps(rows, [least - 1] * len(rows), flips))
        if flips is None:
            self.assertLessEqual(2 ** least, len(rows))

    def test_small_rows(self):
        for length, many in ((0, 3), (1, 4), (2, 4), (3, 3)):
            for count in range(1, many + 1):
                for rows in itertools.product(all_words(length), repeat=count):
                    self.check(rows, None)
                    self.check(list(rows), [count % 3] * count)

    def test_up_to_the_sizes(self):
        for rows, _, flips in larger_games(25):
            self.check(rows, flips)

    def test_told_by_hand(self):
        self.assertEqual(least_errors(("00", "01", "10", "11")), 2)
        self.assertEqual(least_errors(("00", "01", "10")), 1)
        self.assertEqual(least_errors(rows=["0", "0"], flips=None), 0)
        self.assertEqual(least_errors(("0000",), flips=(1,)), 1)
        self.assertEqual(least_errors(("",)), 0)
        self.assertEqual(least_errors([format(k, "03b") for k in range(8)]), 3)


class LeastBudgetTest(unittest.TestCase):
    def check(self, rows, budgets, program):
        least = least_budget(rows, budgets, program)

        def with_budget(budget):
            return [budget if k == program else other for k, other in enumerate(budgets)]

        expected = next((b for b in range(len(rows[0]) + 1) if keeps(rows, with_budget(b))), None)
        self.assertEqual((least, type(least)), (expected, type(expected)))
        if expected is None:
            self.assertFalse(keeps(rows, with_budget(len(rows[0]) + 20)))
        self.assertEqual(least_budget(rows, with_budget(7), program), least)

    def test_small_games(self):
        for rows, budgets, flips in small_games():
            if flips is None and len(rows[0]) < 3:
                for program in range(len(rows)):
                    self.check(rows, budgets, program)

    def test_up_to_the_sizes(self):
        chance = random.Random(25)
        for _ in range(40):
            rows, budgets, _ = drawn_game(chance, chance.randint(3, 12), 12, chance.choice((1, 3, 10)))
            self.check(rows, budgets, chance.randrange(len(rows)))
        rows = tuple("1" * k + "0" * (12 - k) for k in range(12))
        for program in (0, 5, 11):
            self.check(rows, (1,) * 12, program)
            self.check(rows, tuple(range(12))[::-1], program)

    def test_told_by_hand(self):
        self.assertEqual(least_budget(("00", "01", "10", "11"), (1, 1, 0, 1), 2), 2)
        self.assertEqual(least_budget(("00", "01", "10", "11"), (1, 1, 0, 0), 2), None)
        self.assertEqual(least_budget(("00", "01", "10", "11"), (1, 2, 9, 2), 2), 0)
        self.assertEqual(least_budget(rows=["00", "01", "11"], budgets=[0, 10, 1], program=1), 1)
        self.assertEqual(least_budget(["00", "00"], [0, 3], 0), 0)
        self.assertEqual(least_budget(("0", "1", "1"), (0, 0, 5), 2), None)
        self.assertEqual(least_budget(("",), (4,), 0), 0)

    def test_programs_that_are_none(self):
        rows, budgets = ("00", "01", "10", "11"), [1, 1, 1, 1]
        for value in any_values() + [4, 5, -4, "0", (0,), 10 ** 9]:
            if not (is_int(value) and 0 <= value < 4):
                self.assertIs(raised(self, NoProgram, least_budget, rows, budgets, value).program, value)
                self.assertIs(raised(self, NoProgram, least_budget, rows=rows, budgets=budgets, program=value).program,
                              value)
        for value in (0, 1):
            least_budget(("", ""), (0, 0), value)
        raised(self, NoProgram, least_budget, ("", ""), (0, 0), 2)


class ErrorsTest(unittest.TestCase):
    def test_rows_then_budgets_then_program(self):
        rows = wrong_values([("01", "10"), ["1"], ["", ""]], are_rows)
        wrong = wrong_values([(0, 1)], lambda value: are_numbers(value) and len(value) == 2) + [(), [1], (1, 1, 1)]
        for call, more in ((least_more, {}), (least_more, {"flips": (1, 0)}), (least_budget, {"program": 1}),
                           (least_budget, {"program": None})):
            for budgets in ((1, 1), None):
                check_refused(self, InvalidRows, call, {"rows": None, "budgets": budgets, **more}, "rows", rows)
            check_refused(self, InvalidBudgets, call, {"rows": ("01", "10"), "budgets": None, **more}, "budgets", wrong)
        for more in ({}, {"flips": None}, {"flips": (1, 0)}):
            check_refused(self, InvalidRows, least_errors, {"rows": None, **more}, "rows", rows)
        raised(self, InvalidRows, least_errors, ())
        raised(self, InvalidRows, least_errors, ["0", ""])
        raised(self, InvalidBudgets, least_budget, ("00", "11"), (True, 1), 0)

    def test_flips_are_passed_by_name_only(self):
        with self.assertRaises(TypeError):
            least_more(("01",), (1,), (0,))
        with self.assertRaises(TypeError):
            least_errors(("01",), (0,))

    def test_what_is_passed_stays_as_it_was(self):
        rows, budgets, flips = ["00", "01", "11"], [0, 0, 0], [1, 0, 0]
        before = seen_as((rows, budgets, flips))
        least_more(rows, budgets, flips=flips)
        least_errors(rows, flips=flips)
        least_budget(rows, budgets, 1)
        self.assertEqual(seen_as((rows, budgets, flips)), before)


if __name__ == "__main__":
    unittest.main()
