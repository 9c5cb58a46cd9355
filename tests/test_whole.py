"""What holds between the parts of the program."""

import itertools
import random
import unittest
from fractions import Fraction

from keptbudgets.audits import errors_on, guesses_of, play, row_told_by
from keptbudgets.budgets import Breaker, Keeper, can_keep, least_everywhere, sum_of, worst_language
from keptbudgets.chips import ChipKeeper, chip_sum
from keptbudgets.codes import code_of, first_clash, is_word, share_of, split
from keptbudgets.coders import SourceCoder
from keptbudgets.coins import CoinGame, coin_sum, mean_errors
from keptbudgets.endless import first_part
from keptbudgets.games import Game, judge_book, judge_tree
from keptbudgets.guessers import Forgiving, Guesser, errors_of
from keptbudgets.held import run_from, stand_of
from keptbudgets.joins import Both, Pair, cut_pair
from keptbudgets.least import chance_to_write, least_program, share_of_ended, told_words
from keptbudgets.listing import count_programs, number_of_program, program_of_number
from keptbudgets.losses import least_loss
from keptbudgets.measures import rows_of, shortest
from keptbudgets.needs import least_errors, least_more
from keptbudgets.packing import chance_of, pack, unpack
from keptbudgets.reels import Reels
from keptbudgets.shares import Share, half_of
from keptbudgets.sources import Source
from keptbudgets.stacks import Stacks
from keptbudgets.tables import Table
from keptbudgets.texts import read_reels, read_stacks, write_reels, write_stacks
from helpers import all_words, as_fraction, check_stand
from languages import SOME, at_the_sizes, made
from sources_told import EVEN, MIXED, ROWS

ONE = Share(1, 1)


def at_most(one, other):
    return one == other or one.is_below(other)


class DocumentTest(unittest.TestCase):
    def test_its_first_example(self):
        self.assertEqual((can_keep((1, 1, 1)), can_keep((0, 1, 2, 2))), (True, False))
        keeper = Keeper(("0110", "0011", "1110"), (1, 1, 1))
        self.assertEqual((keeper.guess(), keeper.tell(1), keeper.guess(), keeper.errors, keeper.living()),
                         (0, None, 1, 1, (2,)))
        self.assertEqual(worst_language((0, 1, 2, 2)), ("000", "100", "110", "111"))
        run = Reels().begin(read_reels("0[~*."), "")
        self.assertEqual((run.go(21), run.written), (21, "0110100110010110"))


class BudgetsTest(unittest.TestCase):
    """The first and the second one of the main promises."""

    def test_below_2_all_rows_are_kept(self):
        chance = random.Random(62)
        for _ in range(40):
            budgets = [chance.randint(0, 3) for _ in range(chance.randint(1, 12))]
            more = least_everywhere(budgets)
            kept = [budget + more for budget in budgets]
            self.assertIs(can_keep(kept), True)
            length = chance.randint(0, 12)
            rows = ["".join(chance.choice("01") for _ in range(length)) for _ in budgets]
            game = Game(rows, kept)
            self.assertEqual((game.is_kept(), game.tree()), (True, None))
            self.assertLessEqual(least_more(rows, budgets), more)
            book = game.book()
            self.assertIs(judge_book(rows, kept, book), True)
            for k, row in enumerate(rows):
                keeper = Keeper(rows, kept)
                self.assertEqual(errors_on(play(keeper, row), row), keeper.errors)
                self.assertIn(k, keeper.living())
                self.assertLessEqual(keeper.errors, kept[k])
                self.assertLessEqual(errors_on(guesses_of(book, row), row), kept[k])

    def test_from_2_on_there_are_rows_that_break_a_budget(self):
        chance = random.Random(63)
        for _ in range(40):
            budgets = [chance.randint(0, 4) for _ in range(chance.randint(2, 12))]
            if can_keep(budgets):
                budgets = [0, 0] + budgets[2:]
            rows = worst_language(budgets)
            game = Game(rows, budgets)
            self.assertEqual((game.is_kept(), game.book()), (False, None))
            self.assertIs(judge_tree(rows, budgets, game.tree()), True)
            self.assertGreaterEqual(least_everywhere(budgets), game.need())
            keeper, breaker = Keeper(rows, budgets), Breaker(budgets)
            while breaker.broken is None:
                keeper.tell(breaker.answer(keeper.guess()))
            self.assertTrue(rows[breaker.broken].startswith(breaker.row))
            self.assertGreater(keeper.errors, budgets[breaker.broken])

    def test_endless_counts_are_those_of_their_programs(self):
        for counts in itertools.product((0, 1, 2), repeat=3):
            budgets = [budget for budget, count in enumerate(counts) for _ in range(count)]
            first = first_part(counts, 0)
            self.assertIs(can_keep(budgets), first is None)
            if first is not None:
                self.assertIs(can_keep([budget for budget in budgets if budget < first]), True)
                self.assertEqual(len(worst_language([budget for budget in budgets if budget <= first])),
                                 sum(counts[:first + 1]))

    def test_without_flips_all_kinds_of_guessers_meet(self):
        chance = random.Random(64)
        for _ in range(30):
            length = chance.randint(1, 8)
            rows = ["".join(chance.choice("01") for _ in range(length)) for _ in range(chance.randint(1, 6))]
            budgets = [chance.randint(0, 4) for _ in rows]
            none = [0] * len(rows)
            self.assertEqual(chip_sum(budgets, none), sum_of(budgets) * half_of(1))
            self.assertEqual(Game(rows, budgets, flips=none).need(), Game(rows, budgets).need())
            self.assertEqual(least_errors(rows, flips=none), least_errors(rows))
            if can_keep(budgets):
                for row, budget in zip(rows, budgets):
                    self.assertLessEqual(errors_on(play(ChipKeeper(rows, budgets, none), row), row), budget)
            coins = CoinGame(rows, [2 * budget for budget in budgets])
            self.assertTrue(at_most(coins.need(), Share(Game(rows, budgets).need(), 1)))

    def test_a_book_of_guesses_is_one_of_coins(self):
        rows, budgets = ("0101", "0110", "1010", "1111"), (1, 2, 2, 3)
        book = Game(rows, budgets).book()
        coins = [(word, Share(guess, 1)) for word, guess in book]
        for row in rows:
            self.assertEqual(mean_errors(coins, row), Share(errors_on(guesses_of(book, row), row), 1))
        halves = [2 * budget for budget in budgets]
        need = max(Fraction(errors_on(guesses_of(book, row), row) - budget) for row, budget in zip(rows, budgets))
        self.assertGreaterEqual(need, as_fraction(self, CoinGame(rows, halves).need()))
        self.assertIs(coin_sum(halves).is_below(ONE), True)


class ProgramsTest(unittest.TestCase):
    """The third one of the main promises, and what the parts say of the programs of one language."""

    def check_rows(self, told, most, patience, many):
        language = made(told)
        pairs = rows_of(language, most, patience, many)
        for program, row in pairs[:40]:
            self.assertEqual(row_told_by(language, program, many, patience), row)
            guesser = Guesser(language, most, patience)
            guesses = play(guesser, row)
            self.assertEqual(errors_on(guesses, row), guesser.errors)
            self.assertLessEqual(guesser.errors, len(program))
            self.assertIn(program, guesser.living())
            packed = pack(language, most, patience, row)
            self.assertLessEqual(len(packed), len(program) + 2)
            self.assertEqual(unpack(language, most, patience, many, packed + "01"), (row, "01"))
            chance = chance_of(language, most, patience, row)
            self.assertTrue(at_most(half_of(len(program) + 1), chance))
            self.assertEqual(errors_of(language, program, patience, row), 0)
            forgiving = Forgiving(language, most, patience)
            self.assertEqual(errors_on(play(forgiving, row), row), forgiving.errors)
            self.assertLessEqual(4 ** forgiving.errors, 3 ** forgiving.errors * 2 ** len(program))
        return pairs

    def test_rows_that_programs_write(self):
        for told in SOME:
            for most, patience, many in ((6, 2, 3), (9, 4, 6)):
                pairs = self.check_rows(told, most, patience, many)
                if pairs:
                    lengths = [len(program) for program, _ in pairs]
                    self.assertIs(can_keep(lengths), True)
                    self.assertIs(Game([row for _, row in pairs[:12]], lengths[:12]).is_kept(), True)

    def test_at_the_sizes(self):
        found = 0
        for told in at_the_sizes(random.Random(65))[:6]:
            language = made(told)
            pairs = rows_of(language, 12, 60, 40)
            found += len(pairs)
            for program, row in pairs[:2]:
                self.assertLessEqual(errors_on(play(Guesser(language, 12, 60), row), row), len(program))
                self.assertLessEqual(len(pack(language, 12, 60, row)), len(program) + 2)
        self.assertGreater(found, 50)

    def test_packed_rows_are_a_code(self):
        for told in ("reels", SOME[2], ("both", SOME[2], "stacks")):
            words = [pack(made(told), 6, 3, row) for row in all_words(4)]
            self.assertIsNone(first_clash(words))
            self.assertTrue(at_most(share_of(words), ONE))
            code = code_of([len(word) for word in words])
            self.assertEqual([len(word) for word in code], [len(word) for word in words])
            for place, word in enumerate(code):
                self.assertEqual(split(code, word + "0101"), (place, "0101"))

    def test_programs_of_a_language_are_a_code(self):
        for told in SOME:
            language = made(told)
            programs = [program for length in range(7) for program in language.programs(length)]
            self.assertIsNone(first_clash(programs[:60]))
            self.assertTrue(at_most(share_of(programs[:60]), ONE))
            for program in programs:
                self.assertTrue(is_word(program) and language.is_program(program))

    def test_a_table_of_what_a_language_tells(self):
        for told in SOME:
            language = made(told)
            pairs = told_words(language, 9, 30)[:40]
            table = Table([(program, [(int(sign), 1) for sign in word], 1) for word, program in pairs])
            self.assertEqual(told_words(table, 12, 40), pairs)
            for word, program in pairs:
                self.assertEqual(least_program(language, word, 9, 30), program)
                self.assertEqual(shortest(table, word, 12, 40), len(program))
                self.assertTrue(at_most(half_of(len(program)), chance_to_write(language, word, 9, 30)))
            self.assertTrue(at_most(share_of_ended(table, 12, 40), share_of_ended(language, 9, 30)))

    def test_joined_languages(self):
        for one, other in ((SOME[2], "reels"), (SOME[3], "stacks")):
            both, pair = Both(made(one), made(other)), Pair(made(one), made(other))
            halves = [share_of_ended(made(told), 6, 9) for told in (one, other)]
            self.assertEqual(share_of_ended(both, 7, 9), (halves[0] + halves[1]) * half_of(1))
            for program in pair.programs(5):
                first, second = cut_pair(pair, program)
                self.assertEqual(first + second, program)
                self.assertTrue(both.is_program("0" + first) and both.is_program("1" + second))
        ended = share_of_ended(Pair(made(SOME[2]), made(SOME[3])), 12, 400)
        self.assertEqual(ended, share_of_ended(made(SOME[2]), 3, 200) * share_of_ended(made(SOME[3]), 3, 200))

    def test_small_languages_with_their_listing_texts_and_stands(self):
        for language, write, read in ((Reels(), write_reels, read_reels), (Stacks(), write_stacks, read_stacks)):
            for tokens in range(5):
                programs = language.programs(3 * tokens)
                self.assertEqual(len(programs), count_programs(language, tokens))
                for number, program in enumerate(programs):
                    self.assertEqual(program_of_number(language, tokens, number), program)
                    self.assertEqual(number_of_program(language, program), number)
                    self.assertEqual(read(write(program)), program)
                    run = Both(language, language).begin("1" + program, "01")
                    run.go(3)
                    other = run_from(language, stand_of(run))
                    self.assertEqual(run.go(9), other.go(9))
                    self.assertEqual((other.written, other.steps, other.is_ended), (run.written, run.steps, run.is_ended))

    def test_runs_of_one_program_do_not_touch_one_another(self):
        language = Pair(Reels(), Stacks())
        program = read_reels("01=.") + read_stacks("!!.")
        one, other = language.begin(program, "10"), language.begin(program, "10")
        one.go(99)
        check_stand(self, other, [])
        self.assertEqual((one.written, other.go(99), other.written), ("010110", one.steps, "010110"))


class SourcesTest(unittest.TestCase):
    """The fourth one of the main promises."""

    def test_one_source_loses_nothing(self):
        for rows in (ROWS, EVEN, MIXED):
            source = Source(rows)
            self.assertEqual(least_loss([source], 4), ONE)
            coder = SourceCoder([source], 4)
            for word in all_words(4):
                self.assertEqual(coder.chance(word), source.chance(word))

    def test_equal_sources_are_like_one(self):
        one, two = SourceCoder([Source(MIXED)], 3), SourceCoder([Source(MIXED), Source(MIXED)], 3)
        for word in all_words(3):
            self.assertEqual(one.chance(word), two.chance(word))
            if one.chance(word).over > 0:
                self.assertEqual(one.pack(word), two.pack(word))

    def test_an_even_source_packs_words_as_they_are(self):
        coder = SourceCoder([Source(EVEN)], 5)
        for word in all_words(5):
            self.assertEqual((coder.pack(word), coder.unpack(word + "10")), (word, (word, "10")))
            # So does packing by no programs at all.
            self.assertEqual(pack(Table(()), 0, 1, word), word)


if __name__ == "__main__":
    unittest.main()
