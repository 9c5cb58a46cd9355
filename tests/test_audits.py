import itertools
import random
import unittest

from keptbudgets.audits import errors_on, guesses_of, play, row_told_by
from keptbudgets.budgets import Keeper
from keptbudgets.chips import ChipKeeper
from keptbudgets.errors import NoProgram
from keptbudgets.games import Game
from keptbudgets.guessers import Forgiving, Guesser, errors_of
from keptbudgets.reels import Reels
from keptbudgets.tables import Table
from keptbudgets.texts import read_reels
from games_told import larger_games, small_games
from guessers_told import on_time, rows_on_time, rows_to_try
from helpers import all_words, any_values, as_lists, check_calls, is_bits, raised, seen_as, words_up_to
from languages import NONE, QUICK, SLOW, SOME, at_the_sizes, is_program, long_table, made, programs_up_to


class ErrorsOnTest(unittest.TestCase):
    def test_all_short_words(self):
        for length in range(5):
            for guesses, row in itertools.product(all_words(length), repeat=2):
                differing = [k for k in range(length) if guesses[k] != row[k]]
                check_calls(self, errors_on, {"guesses": guesses, "row": row}, len(differing))

    def test_long_words(self):
        chance = random.Random(48)
        self.assertEqual(errors_on("01" * 20, "10" * 20), 40)
        for _ in range(50):
            row = [chance.choice("01") for _ in range(40)]
            wrong = sorted(chance.sample(range(40), chance.randint(0, 40)))
            guesses = ["10"[int(sign)] if k in wrong else sign for k, sign in enumerate(row)]
            self.assertEqual(errors_on("".join(guesses), "".join(row)), len(wrong))


class GuessesOfTest(unittest.TestCase):
    def test_told_by_hand(self):
        book = [("0", 1), ("", 0), ("1", 0), ("01", 1)]
        self.assertEqual(guesses_of(book=book, row="011"), "011")
        self.assertEqual([guesses_of(book, row) for row in ("", "0", "1", "00", "01", "10", "010")],
                         ["", "0", "0", "01", "01", "00", "011"])
        self.assertEqual(guesses_of((), ""), "")
        self.assertEqual(guesses_of([], ""), "")

    def test_books_in_any_order(self):
        chance = random.Random(49)
        for length in range(5):
            for _ in range(20):
                book = [(word, chance.randint(0, 1)) for word in words_up_to(length - 1)] if length else []
                guess = dict(book)
                chance.shuffle(book)
                for row in all_words(length):
                    expected = "".join(str(guess[row[:k]]) for k in range(length))
                    check_calls(self, guesses_of, {"book": tuple(book), "row": row}, expected)

    def test_books_with_just_the_beginnings_of_the_row(self):
        row = "0110" * 10
        book = [(row[:k], k % 2) for k in reversed(range(40))]
        self.assertEqual(guesses_of(book, row), "01" * 20)
        self.assertEqual(guesses_of(as_lists(book), row[:7]), "0101010")

    def test_books_of_games_keep_the_budgets(self):
        tried = 0
        games = [game for game in small_games() if game[2] is None][::7] + [game for game in larger_games(10)]
        for rows, budgets, flips in games:
            book = Game(rows, budgets, flips=flips).book()
            if book is not None and flips is None:
                for row, budget in zip(rows, budgets):
                    tried += 1
                    self.assertLessEqual(errors_on(guesses_of(book, row), row), budget)
        self.assertGreater(tried, 100)


class PlayTest(unittest.TestCase):
    def check(self, make, row):
        """play does as asking and telling bit by bit does."""
        other, played = make(), make()
        guesses = ""
        for sign in row:
            guesses += str(other.guess())
            other.tell(int(sign))
        self.assertEqual(play(guesser=played, row=row), guesses)
        self.assertEqual((played.seen, played.errors), (row, errors_on(guesses, row)))
        self.assertEqual(other.errors, played.errors)
        self.assertEqual(play(make(), row), guesses)
        return played

    def test_guessers_of_rows(self):
        chance = random.Random(50)
        for length in (0, 1, 4, 12):
            for _ in range(8):
                rows = ["".join(chance.choice("01") for _ in range(length)) for _ in range(5)]
                for row in rows + ["1" * length, "0" * (length // 2)]:
                    keeper = self.check(lambda: Keeper(rows, (1, 2, 3, 3, 10)), row)
                    self.assertEqual(keeper.living(), tuple(k for k in range(5) if rows[k].startswith(row)))
                    self.check(lambda: ChipKeeper(rows, (1, 2, 3, 3, 10), (0, 1, 2, 0, 3)), row)

    def test_guessers_by_programs(self):
        for told in SOME:
            for row in rows_to_try(told, 9, 10)[:3] + [""]:
                self.check(lambda: Guesser(made(told), 9, 3), row)
                self.check(lambda: Forgiving(made(told), 9, 3), row)

    def test_guessers_told_nothing_as_yet_stay_so_with_no_bits(self):
        for make in (lambda: Keeper([""], [0]), lambda: ChipKeeper(["01"], [0], [1]), lambda: Guesser(Reels(), 3, 2),
                     lambda: Forgiving(Reels(), 3, 2)):
            guesser = make()
            self.assertEqual((play(guesser, ""), guesser.seen, guesser.errors), ("", "", 0))

    def test_told_by_hand(self):
        keeper = Keeper(("0110", "0011", "1110"), (1, 1, 1))
        self.assertEqual((play(keeper, "1110"), keeper.errors, keeper.living()), ("0110", 1, (2,)))
        guesser = Guesser(Table([("0", [(1, 1), (1, 1)], 1), ("10", [(1, 1), (0, 1)], 1)]), 2, 1)
        self.assertEqual((play(guesser, "100"), guesser.errors, guesser.living()), ("110", 1, ()))

    def test_at_the_sizes(self):
        for told in at_the_sizes(random.Random(51))[:6]:
            row = rows_on_time(told, 12, 60, 40)[:1] + ["01" * 20]
            self.check(lambda: Guesser(made(told), 12, 60), row[0])
        forgiving = self.check(lambda: Forgiving(made("stacks"), 12, 60), "0110" * 10)
        self.assertLessEqual(4 ** forgiving.errors, 3 ** forgiving.errors * 2 ** (3 + 40))

    def test_errors_of_programs_bound_those_of_guessers(self):
        for told in (QUICK, SLOW, "reels", ("both", QUICK, "stacks")):
            for row in rows_to_try(told, 6, 12)[:4]:
                forgiving = self.check(lambda: Forgiving(made(told), 6, 2), row)
                for program in programs_up_to(told, 6):
                    halvings = len(program) + errors_of(made(told), program, 2, row)
                    self.assertLessEqual(4 ** forgiving.errors, 3 ** forgiving.errors * 2 ** halvings)


class RowToldByTest(unittest.TestCase):
    def check(self, told, program, many, patience):
        bits = on_time(told, program, patience)
        expected = bits[:many] if len(bits) >= many else None
        self.assertEqual(row_told_by(made(told), program, many, patience), expected)
        return expected

    def test_short_programs(self):
        for told in SOME:
            for program in programs_up_to(told, 6):
                for many, patience in itertools.product((0, 1, 2, 5), (1, 2, 3, 9)):
                    expected = self.check(told, program, many, patience)
                    if many == 2:
                        named = {"language": made(told), "program": program, "many": many, "patience": patience}
                        check_calls(self, row_told_by, named, expected)

    def test_bits_just_within_patience_and_one_step_late(self):
        table = Table([("0", [(1, 3), (0, 2), (1, 4)], 1), ("1", [(0, 1)], None)])
        for patience, rows in ((2, ["", None, None, None, None]), (3, ["", "1", "10", None, None]),
                               (4, ["", "1", "10", "101", None])):
            self.assertEqual([row_told_by(table, "0", many, patience) for many in range(5)], rows)
        self.assertEqual(row_told_by(language=table, program="1", many=1, patience=1), "0")
        self.assertIsNone(row_told_by(table, "1", 2, 60))
        self.assertEqual(row_told_by(Reels(), read_reels("0[~*."), 16, 2), "0110100110010110")
        self.assertIsNone(row_told_by(Reels(), read_reels("0[~*."), 16, 1))

    def test_at_the_sizes(self):
        table = long_table(random.Random(52), 40, (1, 59, 60, 61, 200))
        for told in (table, ("pair", QUICK, table), ("pair", ("both", table, "reels"), SLOW)):
            for program in programs_up_to(told, 12)[::7]:
                for many in (1, 20, 39, 40):
                    for patience in (59, 60):
                        self.check(told, program, many, patience)
        for told in ("reels", "stacks"):
            for program in programs_up_to(told, 12):
                self.check(told, program, 40, 60)

    def test_what_is_no_program(self):
        for told in (QUICK, NONE, "reels", "stacks", ("both", QUICK, "reels"), ("pair", QUICK, SLOW)):
            language = made(told)
            for value in any_values() + ["0", "1", "00", "0" * 40, ["0"]]:
                if not (is_bits(value) and len(value) < 20 and is_program(told, value)):
                    self.assertIs(raised(self, NoProgram, row_told_by, language, value, 0, 1).program, value)
                    self.assertIs(raised(self, NoProgram, row_told_by, language=language, program=value, many=3,
                                         patience=60).program, value)

    def test_two_by_turns(self):
        table = made(SLOW)
        before = seen_as(table)
        for _ in range(2):
            self.assertEqual([row_told_by(table, "00", many, 4) for many in (3, 1)], ["100", "1"])
            self.assertEqual(row_told_by(table, "01", 3, 2), "011")
        self.assertEqual(seen_as(table), before)


if __name__ == "__main__":
    unittest.main()
