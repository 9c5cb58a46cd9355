import itertools
import random
import unittest
from fractions import Fraction

from keptbudgets.budgets import sum_of, worst_language
from keptbudgets.errors import InvalidBudgets, InvalidRows
from keptbudgets.games import Game, judge_book, judge_tree
from keptbudgets.shares import Share
from games_told import (GameModel, depth_of, drawn_game, larger_games, leaves_of, need_from_all_guessers,
                        small_games)
from helpers import all_words, are_numbers, are_rows, as_lists, check_refused, raised, seen_as, wrong_values


class GameTest(unittest.TestCase):
    def check(self, rows, budgets, flips):
        model = GameModel(rows, budgets, flips)
        game = Game(rows, budgets, flips=flips)
        need = model.need()
        self.assertEqual((game.need(), type(game.need())), (need, int))
        self.assertIs(game.is_kept(), need <= 0)
        book, tree = game.book(), game.tree()
        self.assertEqual(seen_as(book), seen_as(model.book()))
        self.assertEqual(seen_as(tree), seen_as(model.tree()))
        if need <= 0:
            self.assertIsNone(tree)
            self.assertIs(judge_book(rows, budgets, book, flips=flips), True)
            self.assertIs(judge_book(list(rows), list(budgets), as_lists(book), flips=flips), True)
        else:
            self.assertIsNone(book)
            self.assertIs(judge_tree(rows, budgets, tree, flips=flips), True)
            self.assertIs(judge_tree(list(rows), list(budgets), as_lists(tree), flips=flips), True)
        if flips is None:
            total = sum_of(budgets)
            self.assertLessEqual(Fraction(2) ** need, Fraction(total.over, total.under))
            if need > 0:
                self.assertFalse(sum_of([budgets[leaf] for leaf in leaves_of(tree)]).is_below(Share(2, 1)))
        self.assertEqual((game.need(), seen_as((game.book(), game.tree()))), (need, seen_as((book, tree))))

    def test_all_small_games(self):
        for rows, budgets, flips in small_games():
            self.check(rows, budgets, flips)

    def test_need_from_all_guessers(self):
        chance = random.Random(21)
        for _ in range(150):
            choices = chance.choice(((0,), (0, 1), (0, 1, 3)))
            rows, budgets, flips = drawn_game(chance, chance.randint(0, 3), 4, 3, choices)
            self.assertEqual(Game(rows, budgets, flips=flips).need(), need_from_all_guessers(rows, budgets, flips))

    def test_up_to_the_sizes(self):
        for rows, budgets, flips in larger_games(60):
            self.check(rows, budgets, flips)

    def test_need_follows_its_rule(self):
        chance = random.Random(22)
        for _ in range(40):
            rows, budgets, flips = drawn_game(chance, 5, 5, 4, chance.choice((None, (0, 1, 2))))
            model = GameModel(rows, budgets, flips)

            def need_at(word):
                if len(word) == model.length:
                    return max(-budgets[k] for k in model.living(word))
                needs = [need_at(word + sign) for sign in "01" if model.living(word + sign)]
                return needs[0] if len(needs) == 1 else max(needs[0], needs[1], 1 + min(needs))

            self.assertEqual(Game(rows, budgets, flips=flips).need(), need_at(""))

    def test_told_by_hand(self):
        game = Game(("00", "01", "10", "11"), (1, 1, 1, 1))
        self.assertEqual((game.need(), game.is_kept(), game.book()), (1, False, None))
        self.assertEqual(game.tree(), ("", ("0", 0, 1), ("1", 2, 3)))
        game = Game(rows=["00", "01", "10"], budgets=[1, 1, 1])
        self.assertEqual((game.need(), game.is_kept(), game.tree()), (0, True, None))
        self.assertEqual(game.book(), (("", 0), ("0", 0), ("1", 0)))
        self.assertEqual(Game(("00", "10", "11"), (1, 1, 1)).book(), (("", 1), ("0", 0), ("1", 0)))
        self.assertEqual(Game(("00", "10", "11"), (1, 1, 2)).book(), (("", 0), ("0", 0), ("1", 0)))
        self.assertEqual(Game(("00", "10", "11"), (1, 2, 1)).book(), (("", 0), ("0", 0), ("1", 1)))
        self.assertEqual(Game(("011",), (3,)).need(), -3)
        self.assertEqual(Game(("0",), (0,), flips=(1,)).tree(), ("", 0, 0))
        self.assertEqual(Game(("0",), (0,), flips=[0]).tree(), None)
        self.assertEqual(Game(("00", "11"), (1, 0), flips=(1, 0)).need(), 1)
        self.assertEqual(Game(("00", "11"), (0, 0)).tree(), ("", 0, 1))
        self.assertEqual(Game(("100", "101"), (0, 0)).tree(), ("10", 0, 1))

    def test_rows_of_no_bits_one_row_and_equal_rows(self):
        for rows, budgets, need in ((("",), (0,), 0), (("", ""), (4, 2), -2), (["", "", ""], [3, 10, 0], 0)):
            for flips in (None, (12,) * len(rows), [0] * len(rows)):
                game = Game(rows, budgets, flips=flips)
                self.assertEqual((game.need(), game.is_kept(), game.book(), game.tree()), (need, True, (), None))
        game = Game(("0110",), (0,))
        self.assertEqual((game.need(), game.book()), (0, (("", 0), ("0", 1), ("01", 1), ("011", 0))))
        game = Game(("01", "01", "01"), (5, 2, 7))
        self.assertEqual((game.need(), game.book()), (-2, (("", 0), ("0", 1))))

    def test_flips_of_none_are_flips_of_0(self):
        chance = random.Random(23)
        for _ in range(40):
            rows, budgets, _ = drawn_game(chance, 6, 6, 2)
            games = [Game(rows, budgets, flips=flips) for flips in (None, (0,) * len(rows), [0] * len(rows))]
            self.assertEqual(len({seen_as((game.need(), game.book(), game.tree())) for game in games}), 1)
            self.assertEqual(Game(rows, budgets).need(), games[0].need())

    def test_flips_above_the_bits_of_a_row(self):
        for flips in (3, 4, 12):
            game = Game(("000", "111"), (3, 2), flips=(flips, 0))
            self.assertEqual((game.need(), game.is_kept()), (0, True))
            self.assertEqual(Game(("000",), (2,), flips=[flips]).need(), 1)
            self.assertEqual(len(Game(("000",), (3,), flips=[flips]).book()), 7)

    def test_errors_and_their_order(self):
        rows = wrong_values([("01", "10"), ["1"], ["", ""]], are_rows)
        wrong = wrong_values([(0, 1)], lambda value: are_numbers(value) and len(value) == 2)
        for call, more in ((Game, {}), (judge_book, {"book": ()}), (judge_tree, {"tree": 0})):
            for flips in ({}, {"flips": None}, {"flips": (1, 0)}):
                for budgets in ((1, 1), None, (1,)):
                    given = {"rows": None, "budgets": budgets, **more, **flips}
                    check_refused(self, InvalidRows, call, given, "rows", rows)
                check_refused(self, InvalidBudgets, call, {"rows": ("01", "10"), "budgets": None, **more, **flips},
                              "budgets", wrong + [(), [1], (1, 1, 1)])
            raised(self, InvalidRows, call, ("0", "01"), (1, 1), *more.values())
            raised(self, InvalidRows, call, [], [], *more.values())

    def test_flips_are_passed_by_name_only(self):
        with self.assertRaises(TypeError):
            Game(("01",), (1,), (0,))
        with self.assertRaises(TypeError):
            judge_book(("01",), (1,), (), (0,))
        with self.assertRaises(TypeError):
            judge_tree(("01",), (1,), 0, (0,))

    def test_later_changes_have_no_effect(self):
        rows, budgets, flips = ["00", "01", "11"], [1, 0, 1], [0, 1, 0]
        game, kept = Game(rows, budgets, flips=flips), Game(rows, [4, 4, 4], flips=flips)
        self.assertEqual((rows, budgets, flips), (["00", "01", "11"], [1, 0, 1], [0, 1, 0]))
        model = GameModel(rows, budgets, flips)
        book = GameModel(rows, [4, 4, 4], flips).book()
        rows[0], budgets[1], flips[0] = "10", 9, 2
        rows.pop()
        budgets.pop()
        flips.pop()
        self.assertEqual((game.need(), game.tree(), game.book()), (model.need(), model.tree(), None))
        self.assertEqual((kept.book(), kept.tree()), (book, None))


def spoilt_books(book, length):
    """Books with one place spoilt."""
    pairs = list(book)
    for k, (word, bit) in enumerate(pairs):
        yield pairs[:k] + [(word, 1 - bit)] + pairs[k + 1:]
        yield pairs[:k] + pairs[k + 1:]
        yield pairs[:k] + [pairs[k], pairs[k]] + pairs[k + 1:]
        yield pairs[:k] + pairs[k + 1:] + [pairs[k]]
        if k:
            yield pairs[:k - 1] + [pairs[k], pairs[k - 1]] + pairs[k + 1:]
        for other in ("", "0", "1", "01", word[1:], word + "0", word + "1", "1" * length, "0" * 40):
            if other != word:
                yield pairs[:k] + [(other, bit)] + pairs[k + 1:]
                yield pairs[:k] + [(other, bit)] + pairs[k:]
    yield pairs + [("0" * length, 0)]
    yield pairs + [("1" * length, 1)]
    yield pairs + [("01" * 20, 1)]
    yield []


def spoilt_trees(tree, programs):
    """Trees with one place spoilt."""
    if isinstance(tree, int):
        for other in (-1, programs, 10 ** 9, *range(programs)):
            if other != tree:
                yield other
        for word in ("", "0", "1", "10", "01", "000"):
            yield (word, tree, tree)
        return
    word, lower, upper = tree
    yield lower
    yield upper
    yield (word, upper, lower)
    yield (word, lower, lower)
    for other in ("", "0", "1", "00", "11", word[:-1], word + "0", word + "1", word[1:], "1" + word, "01" * 20):
        if other != word:
            yield (other, lower, upper)
    for spoilt in spoilt_trees(lower, programs):
        yield (word, spoilt, upper)
    for spoilt in spoilt_trees(upper, programs):
        yield (word, lower, spoilt)


class JudgesTest(unittest.TestCase):
    def games(self):
        chance = random.Random(24)
        for _ in range(60):
            flips = chance.choice((None, None, (0, 1), (0, 3)))
            yield drawn_game(chance, chance.randint(0, 4), 5, 2, flips)
        yield ("00", "01", "10", "11"), (1, 1, 1, 1), None
        yield ("000", "111", "010"), (3, 3, 3), (1, 0, 12)

    def test_spoilt_books(self):
        taken = refused = 0
        for rows, budgets, flips in self.games():
            model = GameModel(rows, budgets, flips)
            more = max(0, model.need())
            budgets = tuple(budget + more for budget in budgets)
            model = GameModel(rows, budgets, flips)
            book = Game(rows, budgets, flips=flips).book()
            self.assertIs(judge_book(rows=rows, budgets=budgets, book=book, flips=flips), True)
            for spoilt in spoilt_books(book, len(rows[0])):
                expected = model.takes_book(spoilt)
                taken, refused = taken + expected, refused + (not expected)
                self.assertIs(judge_book(rows, budgets, spoilt, flips=flips), expected)
                self.assertIs(judge_book(rows, budgets, tuple(map(list, spoilt)), flips=flips), expected)
        self.assertGreater(taken, 50)
        self.assertGreater(refused, 500)

    def test_a_book_that_is_taken_keeps_the_budgets(self):
        for rows, budgets, flips in small_games():
            if len(rows[0]) < 3 and sum(budgets) < 3:
                words = [word for word in GameModel(rows, budgets, flips).open_words if len(word) < len(rows[0])]
                for guesses in itertools.product((0, 1), repeat=len(words)):
                    book = tuple(zip(words, guesses))
                    taken = judge_book(rows, budgets, book, flips=flips)
                    self.assertIs(taken, GameModel(rows, budgets, flips).takes_book(book))
                    if taken:
                        self.assertTrue(Game(rows, budgets, flips=flips).is_kept())

    def test_books_told_by_hand(self):
        rows, budgets = ("00", "01", "10"), (1, 1, 1)
        self.assertIs(judge_book(rows, budgets, (("", 0), ("0", 1), ("1", 0))), True)
        self.assertIs(judge_book(rows, budgets, [["", 0], ["0", 0], ["1", 1]]), False)
        self.assertIs(judge_book(rows, budgets, [["", 0], ["0", 0]]), False)
        self.assertIs(judge_book(rows, budgets, [["", 0], ["1", 0], ["0", 0]]), False)
        self.assertIs(judge_book(rows, budgets, [["", 0], ["0", 0], ["1", 0], ["10", 0]]), False)
        self.assertIs(judge_book(("", ""), (0, 0), ()), True)
        self.assertIs(judge_book(("", ""), (0, 0), [("", 0)]), False)
        self.assertIs(judge_book(("1",), (0,), [("", 1)]), True)
        self.assertIs(judge_book(("1",), (0,), [("", 0)]), False)
        self.assertIs(judge_book(("1",), (1,), [("", 0)]), True)
        self.assertIs(judge_book(("1",), (0,), [("", 1)], flips=(1,)), False)

    def test_spoilt_trees(self):
        taken = refused = 0
        for rows, budgets, flips in self.games():
            budgets = tuple(max(0, budget - 1) for budget in budgets)
            model = GameModel(rows, budgets, flips)
            tree = Game(rows, budgets, flips=flips).tree()
            if tree is None:
                continue
            self.assertIs(judge_tree(rows=rows, budgets=budgets, tree=tree, flips=flips), True)
            for spoilt in spoilt_trees(tree, len(rows)):
                expected = model.takes_tree(spoilt)
                taken, refused = taken + expected, refused + (not expected)
                self.assertIs(judge_tree(rows, budgets, spoilt, flips=flips), expected)
                self.assertIs(judge_tree(rows, budgets, as_lists(spoilt), flips=flips), expected)
                if expected and flips is None:
                    self.assertFalse(sum_of([budgets[leaf] for leaf in leaves_of(spoilt)]).is_below(Share(2, 1)))
        self.assertGreater(taken, 20)
        self.assertGreater(refused, 500)

    def test_a_tree_that_is_taken_breaks_the_budgets(self):
        leaves = (0, 1)
        knots = [(word, lower, upper) for word in ("", "0", "1") for lower in leaves for upper in leaves]
        trees = list(leaves) + knots + [("", lower, upper) for lower in knots for upper in knots + [0, 1]]
        for rows in itertools.product(all_words(2), repeat=2):
            for budgets in itertools.product((0, 1), repeat=2):
                for flips in (None, (1, 0), (2, 2)):
                    model = GameModel(rows, budgets, flips)
                    kept = model.keeps("", 0)
                    for tree in trees:
                        taken = judge_tree(rows, budgets, tree, flips=flips)
                        self.assertIs(taken, model.takes_tree(tree))
                        self.assertFalse(taken and kept)

    def test_trees_told_by_hand(self):
        rows, budgets = ("00", "01", "10", "11"), (1, 1, 1, 1)
        self.assertIs(judge_tree(rows, budgets, ("", ("0", 0, 1), ("1", 2, 3))), True)
        self.assertIs(judge_tree(rows, budgets, ["", ["0", 0, 1], ["1", 2, 3]]), True)
        self.assertIs(judge_tree(rows, budgets, ("", ("0", 0, 1), ("1", 3, 2))), False)
        self.assertIs(judge_tree(rows, budgets, ("", ("1", 2, 3), ("0", 0, 1))), False)
        self.assertIs(judge_tree(rows, budgets, ("", ("0", 0, 1), 2)), False)
        self.assertIs(judge_tree(rows, (1, 1, 0, 1), ("", ("0", 0, 1), 2)), True)
        self.assertIs(judge_tree(rows, budgets, ("", ("", 0, 1), ("1", 2, 3))), False)
        for leaf in (0, 1, 3, 4, -1, 10 ** 399):
            self.assertIs(judge_tree(rows, (0, 0, 0, 0), leaf), False)
            self.assertIs(judge_tree(("", ""), (0, 0), leaf), False)
        self.assertIs(judge_tree(rows, (0, 0, 0, 0), ("0", 0, 1)), True)
        self.assertIs(judge_tree(rows, (0, 0, 0, 0), ("00", 0, 0)), False)
        self.assertIs(judge_tree(rows, (0, 0, 0, 0), ("", 0, -1)), False)
        self.assertIs(judge_tree(rows, (0, 0, 0, 0), ("", 0, 4)), False)
        self.assertIs(judge_tree(("00", "01"), (0, 0), ("1", 0, 1)), False)
        self.assertIs(judge_tree(("0",), (0,), ("", 0, 0)), False)
        self.assertIs(judge_tree(("0",), (0,), ("", 0, 0), flips=[1]), True)
        self.assertIs(judge_tree(("", ""), (0, 0), ("", 0, 1)), False)

    def test_twelve_inside_one_another(self):
        tree, rows = 11, [("1" * k + "0" * 12)[:12] for k in range(13)]
        for k in reversed(range(12)):
            tree = ("1" * k, k, tree if k < 11 else 12)
        self.assertEqual(depth_of(tree), 12)
        budgets = [0] + list(range(1, 12))
        self.assertIs(judge_tree(rows[:12], budgets, tree), False)
        full = tuple(range(11)) + (10,)
        worst = worst_language(full)
        self.assertEqual(depth_of(Game(worst, full).tree()), 11)

        def wide(word):
            return 0 if len(word) == 12 else (word, wide(word + "0"), wide(word + "1"))

        self.assertIs(judge_tree(("01" * 6,), (11,), wide(""), flips=(12,)), True)
        self.assertIs(judge_tree(("01" * 6,), (12,), wide(""), flips=(12,)), False)
        self.assertIs(judge_tree(("01" * 6,), (11,), wide(""), flips=(11,)), False)

    def test_what_is_passed_stays_as_it_was(self):
        rows, budgets, flips = ["00", "01", "10", "11"], [1, 1, 1, 1], [0, 0, 0, 0]
        book, tree = [["", 0], ["0", 0], ["1", 0]], ["", ["0", 0, 1], ["1", 2, 3]]
        before = seen_as((rows, budgets, flips, book, tree))
        self.assertIs(judge_book(rows, budgets, book, flips=flips), False)
        self.assertIs(judge_tree(rows, budgets, tree, flips=flips), True)
        self.assertEqual(seen_as((rows, budgets, flips, book, tree)), before)


if __name__ == "__main__":
    unittest.main()
