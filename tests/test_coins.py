import itertools
import random
import unittest
from fractions import Fraction

from keptbudgets.budgets import can_keep, sum_of, worst_language
from keptbudgets.coins import CoinGame, coin_sum, mean_errors
from keptbudgets.errors import InvalidBudgets, InvalidRows
from keptbudgets.games import Game
from keptbudgets.shares import Share
from coins_told import bound_of, misses_told, need_of_book, open_words, worst_shares
from helpers import (all_words, any_values, are_numbers, are_rows, as_fraction, as_lists, as_share, check_calls,
                     check_refused, raised, seen_as, wrong_values)


def small_games():
    for length, many, most in ((0, 3, 3), (1, 3, 3), (2, 2, 4), (2, 3, 2), (3, 2, 2)):
        for count in range(1, many + 1):
            for rows in itertools.product(all_words(length), repeat=count):
                for halves in itertools.product(range(most + 1), repeat=count):
                    yield rows, halves


def larger_games(many):
    chance = random.Random(54)
    for _ in range(many):
        length, count = chance.randint(3, 12), chance.randint(1, 12)
        rows = tuple("".join(chance.choice("01") for _ in range(length)) for _ in range(count))
        yield rows, tuple(chance.randint(0, chance.choice((1, 4, 20))) for _ in range(count))
    yield ("0" * 12,) * 12, (20,) * 12
    yield tuple("1" * k + "0" * (12 - k) for k in range(12)), (0,) * 12
    yield tuple("1" * k + "0" * (12 - k) for k in range(12)), tuple(range(12))
    yield tuple(all_words(12)[::341][:12]), (20,) * 11 + (19,)
    yield ("01" * 6,), (0,)


class CoinGameTest(unittest.TestCase):
    def check(self, rows, halves):
        """need, is_kept and book: that the book needs just so much, and that no guesser does with less."""
        game = CoinGame(rows, halves)
        need = as_fraction(self, game.need())
        self.assertIs(game.is_kept(), need <= 0)
        book = game.book()
        self.assertIs(type(book), tuple)
        self.assertTrue(all(type(pair) is tuple for pair in book))
        self.assertEqual([word for word, _ in book], open_words(rows))
        chances = {word: as_fraction(self, chance) for word, chance in book}
        self.assertTrue(all(0 <= chance <= 1 for chance in chances.values()))
        self.assertEqual(need_of_book(rows, halves, chances), need)
        shares = worst_shares(rows, halves)
        self.assertEqual((sum(shares), min(shares) >= 0), (1, True))
        self.assertEqual(bound_of(rows, halves, shares), need)
        for row in rows:
            self.assertEqual(as_fraction(self, mean_errors(book, row)), misses_told(chances, row))
        self.check_chances(rows, halves, chances)
        self.assertLessEqual(need.denominator, 2 ** (len(rows[0]) + 1))
        if coin_sum(halves) == Share(1, 1) or coin_sum(halves).is_below(Share(1, 1)):
            self.assertLessEqual(need, 0)
        if all(half % 2 == 0 for half in halves):
            self.assertLessEqual(need, Game(rows, [half // 2 for half in halves]).need())
        return need, book

    def check_chances(self, rows, halves, chances):
        """Each chance of the book, from what need is for what comes behind the word."""
        for word, chance in chances.items():
            needs = []
            for sign in "01":
                behind = [k for k, row in enumerate(rows) if row.startswith(word + sign)]
                cut = len(word) + 1
                needs.append(as_fraction(self, CoinGame([rows[k][cut:] for k in behind],
                                                        [halves[k] for k in behind]).need()) if behind else None)
            if None in needs:
                self.assertEqual(chance, Fraction(needs.index(None) == 0))
            else:
                self.assertEqual(chance, min(1, max(0, (1 + needs[1] - needs[0]) / 2)))

    def test_few_and_short_rows(self):
        for rows, halves in small_games():
            self.check(rows, halves)

    def test_larger_games(self):
        kept = 0
        for rows, halves in larger_games(60):
            kept += self.check(rows, halves)[0] <= 0
        self.assertTrue(10 < kept < 55)

    def test_told_by_hand(self):
        game = CoinGame(rows=("0", "1"), halves=(1, 1))
        self.assertEqual((game.need(), game.is_kept(), game.book()), (Share(0, 1), True, (("", Share(1, 2)),)))
        game = CoinGame(["0", "1"], [1, 0])
        self.assertEqual((game.need(), game.is_kept(), game.book()), (Share(1, 4), False, (("", Share(3, 4)),)))
        game = CoinGame(["00", "01", "11"], [2, 2, 0])
        self.assertEqual((game.need(), game.is_kept()), (Share(1, 4), False))
        self.assertEqual(game.book(), (("", Share(3, 4)), ("0", Share(1, 2)), ("1", Share(1, 1))))
        self.assertEqual(CoinGame(["01"], [3]).need(), Share(-3, 2))
        self.assertEqual(CoinGame(["01"], [3]).book(), (("", Share(0, 1)), ("0", Share(1, 1))))

    def test_one_row_and_rows_of_no_bits(self):
        for half in (0, 1, 7, 20):
            for row in ("", "0", "110100110101"):
                need, book = self.check((row,), (half,))
                self.assertEqual(need, Fraction(-half, 2))
                self.assertEqual(book, tuple((row[:k], Share(int(row[k]), 1)) for k in range(len(row))))
        self.assertEqual(self.check(("", "", ""), (3, 1, 2)), (Fraction(-1, 2), ()))
        self.assertIs(CoinGame([""], [0]).is_kept(), True)

    def test_equal_rows(self):
        need, book = self.check(("01", "01", "10"), (4, 2, 2))
        self.assertEqual((need, book[0]), (Fraction(-1, 2), ("", Share(1, 2))))
        self.assertEqual(self.check(("01",) * 3, (4, 2, 3))[0], -1)

    def test_needs_that_lie_apart_by_just_1_and_by_more(self):
        for one, other in itertools.product(range(8), repeat=2):
            need, book = self.check(("0", "1"), (one, other))
            self.assertEqual(need, max(-Fraction(one, 2), -Fraction(other, 2), Fraction(2 - one - other, 4)))
            apart = Fraction(one - other, 2)
            self.assertEqual(as_fraction(self, book[0][1]), min(1, max(0, (1 + apart) / 2)))
            if abs(one - other) >= 2:
                self.assertEqual(book[0][1], Share(int(one > other), 1))

    def test_a_book_is_given_out_where_budgets_cannot_be_kept(self):
        need, book = self.check(("00", "01", "10", "11"), (0, 0, 0, 0))
        self.assertEqual((need, len(book)), (1, 3))
        self.assertEqual({chance.over * 2 == chance.under for _, chance in book}, {True})

    def test_no_book_needs_less(self):
        chance = random.Random(55)
        for rows, halves in list(small_games())[::23] + list(larger_games(10)):
            need = as_fraction(self, CoinGame(rows, halves).need())
            for _ in range(4):
                chances = {word: Fraction(chance.randint(0, 6), 6) for word in open_words(rows)}
                self.assertGreaterEqual(need_of_book(rows, halves, chances), need)
                book = [[word, as_share(told)] for word, told in chances.items()]
                chance.shuffle(book)
                for row in rows:
                    self.assertEqual(as_fraction(self, mean_errors(book, row)), misses_told(chances, row))

    def test_a_coin_sum_of_at_most_1_is_kept_in_all_rows(self):
        chance = random.Random(56)
        just = 0
        for k in range(60):
            halves = [0]
            while len(halves) < chance.randint(2, 12):
                place = chance.randrange(len(halves))
                halves[place] += 1
                halves.append(halves[place])
            just += coin_sum(halves) == Share(1, 1)
            length = chance.randint(1, 12)
            rows = tuple("".join(chance.choice("01") for _ in range(length)) for _ in halves)
            self.assertIs(CoinGame(rows, halves).is_kept(), True)
        self.assertEqual(just, 60)
        for halves in ((0,), (1, 1), (2, 1, 2), (2, 2, 2, 2)):
            for rows in itertools.product(all_words(2), repeat=len(halves)):
                self.assertIs(CoinGame(rows, halves).is_kept(), True)
        self.assertIs(CoinGame(("0", "1"), (1, 0)).is_kept(), False)

    def test_with_coins_no_more_is_needed_than_without(self):
        chance = random.Random(57)
        for _ in range(60):
            budgets = [chance.randint(0, 3) for _ in range(chance.randint(1, 12))]
            length = chance.randint(0, 8)
            rows = ["".join(chance.choice("01") for _ in range(length)) for _ in budgets]
            need, _ = self.check(tuple(rows), tuple(2 * budget for budget in budgets))
            self.assertLessEqual(need, Game(rows, budgets).need())
            if can_keep(budgets):
                self.assertLessEqual(need, 0)
        rows = worst_language((1, 1, 1, 1))
        self.assertEqual((self.check(rows, (2, 2, 2, 2))[0], Game(rows, (1, 1, 1, 1)).need()), (0, 1))

    def test_wrong_rows_and_halves(self):
        given = {"rows": None, "halves": (1, 1)}
        wrong_rows = wrong_values([("01", "10"), ["1"], ["", ""]], are_rows)
        check_refused(self, InvalidRows, CoinGame, given, "rows", wrong_rows)
        check_refused(self, InvalidRows, CoinGame, {"rows": None, "halves": None}, "rows", wrong_rows)
        wrong = wrong_values([(0, 1)], lambda value: are_numbers(value) and len(value) == 2)
        for value in wrong + [(), [1], (1, 1, 1)]:
            self.assertIs(raised(self, InvalidBudgets, CoinGame, ("01", "10"), value).budgets, value)
            self.assertIs(raised(self, InvalidBudgets, CoinGame, rows=["01", "01"], halves=value).budgets, value)
        raised(self, InvalidRows, CoinGame, (), ())

    def test_later_changes_have_no_effect(self):
        rows, halves = ["01", "10", "11"], [1, 0, 2]
        before = seen_as((rows, halves))
        game = CoinGame(rows, halves)
        told = (game.need(), game.book())
        self.assertEqual(seen_as((rows, halves)), before)
        rows[0], halves[1] = "00", 9
        rows.pop()
        halves.pop()
        self.assertEqual((game.need(), game.book()), told)
        self.assertEqual(told, (CoinGame(("01", "10", "11"), (1, 0, 2)).need(),
                                CoinGame(("01", "10", "11"), (1, 0, 2)).book()))

    def test_two_by_turns(self):
        one, other = CoinGame(("0", "1"), (1, 1)), CoinGame(("0", "1"), (0, 9))
        for _ in range(2):
            self.assertEqual((one.need(), other.need()), (Share(0, 1), Share(0, 1)))
            self.assertEqual((one.book(), other.book()), ((("", Share(1, 2)),), (("", Share(0, 1)),)))


class MeanErrorsTest(unittest.TestCase):
    def test_chances_of_0_and_1(self):
        book = (("", Share(0, 1)), ("0", Share(1, 1)), ("1", Share(0, 1)))
        for row, errors in (("", 0), ("0", 0), ("1", 1), ("00", 1), ("01", 0), ("10", 1), ("11", 2)):
            check_calls(self, mean_errors, {"book": book, "row": row}, Fraction(errors))

    def test_books_in_any_order(self):
        chance = random.Random(58)
        for length in range(5):
            for _ in range(10):
                words = [word for k in range(length) for word in all_words(k)]
                chances = {word: Fraction(chance.randint(0, 12), 12) for word in words + ["1" * length]}
                book = [(word, as_share(told)) for word, told in chances.items()]
                chance.shuffle(book)
                for row in all_words(length):
                    check_calls(self, mean_errors, {"book": tuple(book), "row": row}, misses_told(chances, row))

    def test_just_the_beginnings_of_the_row_at_the_sizes(self):
        row = "011010011001"
        chances = {row[:k]: Fraction(10 ** 398 + k, 10 ** 399 + 7 * k) for k in range(12)}
        book = [[word, as_share(told)] for word, told in chances.items()]
        self.assertEqual(seen_as(mean_errors(book, row)), seen_as(misses_told(chances, row)))
        self.assertEqual(seen_as(mean_errors(book=as_lists(book), row=row[:5])), seen_as(misses_told(chances, row[:5])))
        self.assertEqual(mean_errors((), ""), Share(0, 1))
        self.assertEqual(as_fraction(self, mean_errors([], "")), 0)


class CoinSumTest(unittest.TestCase):
    def test_sums(self):
        chance = random.Random(59)
        for many in (0, 1, 2, 5, 40, 1000):
            halves = tuple(chance.randint(0, 40) for _ in range(many))
            total = sum((Fraction(1, 2 ** half) for half in halves), Fraction(0))
            check_calls(self, coin_sum, {"halves": halves}, total)
            self.assertEqual(coin_sum(halves), sum_of(halves))

    def test_just_1(self):
        self.assertEqual(coin_sum((1, 2, 2)), Share(1, 1))
        self.assertEqual(coin_sum(()), Share(0, 1))
        self.assertEqual(coin_sum(halves=[0, 3]), Share(9, 8))
        self.assertEqual(coin_sum((40,) * 1000), Share(1000, 2 ** 40))

    def test_wrong_halves(self):
        refused = 0
        for value in wrong_values([(0, 1), [2], (40, 3, 0)], are_numbers) + [(-1,), [True], "01", None, 3]:
            refused += 1
            self.assertIs(raised(self, InvalidBudgets, coin_sum, value).budgets, value)
            self.assertIs(raised(self, InvalidBudgets, coin_sum, halves=value).budgets, value)
        self.assertGreater(refused, 100)
        self.assertTrue(any(are_numbers(value) for value in any_values()))


if __name__ == "__main__":
    unittest.main()
