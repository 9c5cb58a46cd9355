import functools
import itertools
import random
import unittest
from fractions import Fraction

from keptbudgets.budgets import sum_of
from keptbudgets.chips import ChipKeeper, chip_sum, chip_weight
from keptbudgets.errors import InvalidBudgets, InvalidRows
from keptbudgets.games import Game
from keptbudgets.shares import Share, half_of
from games_told import differences, drawn_game, small_games
from helpers import (all_words, are_numbers, are_rows, as_fraction, check_refused, check_wrong_bits, raised, seen_as,
                     wrong_values)


def weight_by_counting(budget, flips):
    """Of all rows of budget + 1 bits, the part that has at most so many 1s."""
    return Fraction(sum(word.count("1") <= flips for word in all_words(budget + 1)), 2 ** (budget + 1))


@functools.lru_cache(maxsize=None)
def weight_of(budget, flips):
    """The same from the binomial numbers, built up row by row."""
    row = [1]
    for _ in range(budget + 1):
        row = [a + b for a, b in zip([0] + row, row + [0])]
    return Fraction(sum(row[:flips + 1]), 2 ** (budget + 1))


class WeightsTest(unittest.TestCase):
    def test_all_budgets_and_flips_up_to_the_sizes(self):
        for budget, flips in itertools.product(range(11), range(15)):
            expected = weight_by_counting(budget, flips)
            self.assertEqual(as_fraction(self, chip_weight(budget, flips)), expected)
            self.assertEqual(weight_of(budget, flips), expected)
            if flips >= budget + 1:
                self.assertEqual(chip_weight(budget, flips), Share(1, 1))

    def test_told_by_hand(self):
        self.assertEqual(chip_weight(0, 0), Share(1, 2))
        self.assertEqual(chip_weight(0, 1), Share(1, 1))
        self.assertEqual(chip_weight(budget=3, flips=1), Share(5, 16))
        self.assertEqual(chip_weight(3, 2), Share(11, 16))
        self.assertEqual(chip_weight(1, 12), Share(1, 1))
        self.assertEqual(chip_sum((0, 3, 1), (0, 1, 0)), Share(17, 16))
        self.assertEqual(chip_sum(budgets=[3], flips=[1]), Share(5, 16))

    def test_sums(self):
        chance = random.Random(26)
        for _ in range(200):
            many = chance.randint(0, 12)
            budgets = tuple(chance.randint(0, 10) for _ in range(many))
            flips = tuple(chance.randint(0, 12) for _ in range(many))
            total = sum(map(weight_of, budgets, flips), Fraction(0))
            self.assertEqual(as_fraction(self, chip_sum(budgets, flips)), total)
            self.assertEqual(chip_sum(list(budgets), flips), chip_sum(budgets, list(flips)))
            self.assertEqual(chip_sum(budgets, (0,) * many), sum_of(budgets) * half_of(1))

    def test_no_budgets(self):
        self.assertEqual(chip_sum((), ()), Share(0, 1))
        self.assertEqual(chip_sum([], []), Share(0, 1))

    def test_below_1_budgets_can_be_kept_in_all_rows(self):
        tried = 0
        for rows, budgets, flips in small_games():
            flips = flips or (0,) * len(rows)
            if chip_sum(budgets, flips).is_below(Share(1, 1)):
                tried += 1
                self.assertTrue(Game(rows, budgets, flips=flips).is_kept())
        self.assertGreater(tried, 500)


class ChipModel:
    """The guesser of point [23], from what was told alone."""

    def __init__(self, rows, budgets, flips):
        self.rows, self.budgets, self.flips = rows, budgets, flips

    def living(self, seen):
        return tuple(k for k, row in enumerate(self.rows) if differences(row, seen) <= self.flips[k])

    def side(self, seen, errors, bit):
        total = Fraction(0)
        for k in self.living(seen):
            left = self.flips[k] - differences(self.rows[k], seen)
            if self.rows[k][len(seen)] != str(bit):
                left -= 1
            if left >= 0:
                budget = self.budgets[k] - errors - 1
                total += weight_of(budget, left) if budget >= 0 else 1
        return total

    def stand(self, seen):
        """The guess behind a word, and the errors along it."""
        errors = 0
        for place in range(len(seen) + 1):
            guess = None
            if place < len(self.rows[0]):
                begun = seen[:place]
                guess = 0 if self.side(begun, errors, 1) <= self.side(begun, errors, 0) else 1
            if place < len(seen) and int(seen[place]) != guess:
                errors += 1
        return guess, errors


class ChipKeeperTest(unittest.TestCase):
    def check(self, rows, budgets, flips, row, asked=True):
        model = ChipModel(rows, budgets, flips)
        keeper = ChipKeeper(rows, budgets, flips)
        for place in range(len(row) + 1):
            guess, errors = model.stand(row[:place])
            self.assertEqual((keeper.seen, keeper.errors), (row[:place], errors))
            self.assertEqual(keeper.living(), model.living(row[:place]))
            self.assertIs(type(keeper.living()), tuple)
            if place < len(row):
                if asked:
                    self.assertEqual((keeper.guess(), type(keeper.guess())), (guess, int))
                self.assertIsNone(keeper.tell(int(row[place])))
        if chip_sum(budgets, flips).is_below(Share(1, 1)):
            for program in model.living(row):
                self.assertLessEqual(keeper.errors, budgets[program])

    def test_all_few_and_short_rows(self):
        for rows, budgets, flips in small_games():
            if len(rows) < 3:
                for row in all_words(len(rows[0])):
                    self.check(rows, budgets, flips or (0,) * len(rows), row, asked=sum(budgets) % 2 == 0)

    def test_drawn_rows_up_to_the_sizes(self):
        chance = random.Random(27)
        for k in range(150):
            rows, budgets, flips = drawn_game(chance, chance.randint(0, 12 if k % 5 == 0 else 8), 12,
                                              chance.choice((1, 4, 10)), ((0, 1), (0, 1, 2, 12), (0, 8))[k % 3])
            for row in rows[:2] + (("0110" * 3)[:len(rows[0])], "1" * len(rows[0])):
                self.check(rows, budgets, flips, row, asked=chance.random() < 0.5)

    def test_a_sum_below_1_up_to_the_sizes(self):
        chance = random.Random(28)
        for _ in range(40):
            rows, _, flips = drawn_game(chance, 8, 12, 1, (0, 1, 2))
            budgets = [0] * len(rows)
            while not chip_sum(budgets, flips).is_below(Share(1, 1)):
                budgets[chance.randrange(len(rows))] += 1
            for row in all_words(8)[::chance.randint(5, 9)] + list(rows):
                self.check(rows, budgets, flips, row)

    def test_told_by_hand(self):
        keeper = ChipKeeper(("000", "111"), (3, 3), (1, 1))
        self.assertEqual((keeper.guess(), keeper.living()), (0, (0, 1)))
        keeper.tell(1)
        self.assertEqual((keeper.guess(), keeper.errors, keeper.living(), keeper.seen), (1, 1, (0, 1), "1"))
        keeper.tell(bit=1)
        self.assertEqual((keeper.guess(), keeper.errors, keeper.living(), keeper.seen), (1, 1, (1,), "11"))
        keeper.tell(0)
        self.assertEqual((keeper.errors, keeper.living(), keeper.seen), (2, (1,), "110"))

    def test_equal_sums(self):
        self.assertEqual(ChipKeeper(["1", "0"], [2, 2], [1, 1]).guess(), 0)
        self.assertEqual(ChipKeeper(["1", "0"], [2, 3], [0, 0]).guess(), 1)
        self.assertEqual(ChipKeeper(rows=["1"], budgets=[0], flips=[1]).guess(), 0)
        self.assertEqual(ChipKeeper(["1"], [1], [1]).guess(), 1)
        self.assertEqual(ChipKeeper(["1"], [1], [2]).guess(), 0)

    def test_no_flips_left_and_budgets_below_the_errors(self):
        keeper = ChipKeeper(("1111", "0000"), (0, 9), (0, 0))
        self.assertEqual(keeper.guess(), 1)
        keeper.tell(0)
        self.assertEqual((keeper.guess(), keeper.errors, keeper.living()), (0, 1, (1,)))
        keeper.tell(1)
        self.assertEqual((keeper.guess(), keeper.errors, keeper.living()), (0, 2, ()))
        keeper.tell(1)
        self.assertEqual((keeper.guess(), keeper.errors, keeper.living()), (0, 3, ()))
        for row in all_words(4):
            self.check(("0101", "0011", "1110"), (0, 0, 1), (2, 0, 1), row)
            self.check(("0101", "0101", "1110"), (0, 1, 0), (0, 4, 12), row)

    def test_flips_above_the_budget(self):
        for row in all_words(3):
            self.check(("000", "011", "110"), (0, 1, 2), (2, 3, 5), row)
            self.check(("010",), (1,), (12,), row)

    def test_rows_of_no_bits(self):
        keeper = ChipKeeper(("", ""), (0, 1), (0, 12))
        self.assertEqual((keeper.seen, keeper.errors, keeper.living()), ("", 0, (0, 1)))

    def test_guess_changes_nothing_and_two_by_turns(self):
        rows = ("0101", "1100", "1111")
        one, other = ChipKeeper(rows, (1, 2, 1), (1, 0, 1)), ChipKeeper(rows, (2, 1, 4), (1, 0, 1))
        model, second = ChipModel(rows, (1, 2, 1), (1, 0, 1)), ChipModel(rows, (2, 1, 4), (1, 0, 1))
        for place in range(4):
            seen, told = "1101"[:place], "0111"[:place]
            for _ in range(3):
                self.assertEqual((one.guess(), other.guess()), (model.stand(seen)[0], second.stand(told)[0]))
            one.tell(int("1101"[place]))
            self.assertEqual((other.seen, other.living()), (told, second.living(told)))
            other.tell(int("0111"[place]))
        self.assertEqual((one.errors, other.errors), (model.stand("1101")[1], second.stand("0111")[1]))

    def test_wrong_bits(self):
        keeper = ChipKeeper(("0101", "1100"), (1, 2), (1, 0))
        check_wrong_bits(self, keeper, keeper.tell)
        keeper.tell(1)
        check_wrong_bits(self, keeper, keeper.tell)

    def test_wrong_rows_and_budgets(self):
        rows = wrong_values([("01", "10"), ["1"], ["", ""]], are_rows)
        check_refused(self, InvalidRows, ChipKeeper, {"rows": None, "budgets": (1, 1), "flips": (0, 0)}, "rows", rows)
        check_refused(self, InvalidRows, ChipKeeper, {"rows": None, "budgets": None, "flips": (0, 0)}, "rows", rows)
        wrong = wrong_values([(0, 1)], lambda value: are_numbers(value) and len(value) == 2)
        check_refused(self, InvalidBudgets, ChipKeeper, {"rows": ("01", "10"), "budgets": None, "flips": [0, 1]},
                      "budgets", wrong + [(), [1], (1, 1, 1)])
        raised(self, InvalidRows, ChipKeeper, (), (), ())

    def test_later_changes_have_no_effect(self):
        rows, budgets, flips = ["0101", "1100"], [1, 2], [1, 0]
        before = seen_as((rows, budgets, flips))
        keeper, model = ChipKeeper(rows, budgets, flips), ChipModel(tuple(rows), (1, 2), (1, 0))
        self.assertEqual(seen_as((rows, budgets, flips)), before)
        rows[0], budgets[0], flips[0] = "1111", 9, 4
        rows.pop()
        budgets.pop()
        flips.pop()
        for place in range(4):
            self.assertEqual((keeper.guess(), keeper.errors), model.stand("1000"[:place]))
            keeper.tell(int("1000"[place]))
            self.assertEqual(keeper.living(), model.living("1000"[:place + 1]))


if __name__ == "__main__":
    unittest.main()
