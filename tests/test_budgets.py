import itertools
import random
import unittest
from fractions import Fraction

from keptbudgets.budgets import Breaker, Keeper, can_keep, least_everywhere, sum_of, worst_language
from keptbudgets.errors import InvalidBudgets, InvalidRows
from keptbudgets.games import Game
from keptbudgets.shares import Share
from helpers import all_words, are_numbers, are_rows, check_refused, check_wrong_bits, raised, state_of, wrong_values

FULL = tuple(range(11)) + (10,)


def total_of(budgets):
    return sum((Fraction(1, 2 ** budget) for budget in budgets), Fraction(0))


def short_budgets(many, most):
    for count in range(many + 1):
        yield from itertools.product(range(most + 1), repeat=count)


def drawn_budgets(chance, many, most, least=0):
    return tuple(chance.randint(least, most) for _ in range(many))


def breakable(chance, many, most):
    while True:
        budgets = drawn_budgets(chance, many, most)
        if total_of(budgets) >= 2:
            return budgets


def wrong_budgets(good, is_fine=are_numbers):
    return wrong_values(good, is_fine)


class SumsTest(unittest.TestCase):
    def check(self, budgets):
        total = total_of(budgets)
        share = sum_of(budgets)
        self.assertIs(type(share), Share)
        self.assertEqual((share.over, share.under), (total.numerator, total.denominator))
        self.assertIs(can_keep(budgets), total < 2)
        more = least_everywhere(budgets)
        self.assertIs(type(more), int)
        self.assertLess(total_of([budget + more for budget in budgets]), 2)
        if more > 0:
            self.assertGreaterEqual(total_of([budget + more - 1 for budget in budgets]), 2)
        if total >= 1:
            self.assertTrue(2 ** more <= total < 2 ** (more + 1))
        self.assertIs(can_keep([budget + more for budget in budgets]), True)

    def test_all_short_budgets(self):
        for budgets in short_budgets(5, 4):
            self.check(budgets)
            self.assertEqual(sum_of(list(budgets)), sum_of(budgets))
            self.assertEqual((can_keep(list(budgets)), least_everywhere(list(budgets))),
                             (can_keep(budgets), least_everywhere(budgets)))

    def test_told_by_hand(self):
        self.assertIs(can_keep((1, 1, 1)), True)
        self.assertIs(can_keep((0, 1, 2, 2)), False)
        self.assertIs(can_keep([0, 0]), False)
        self.assertIs(can_keep(budgets=(0, 1, 2, 3)), True)
        self.assertEqual(sum_of(budgets=[1, 2, 2]), Share(1, 1))
        self.assertEqual(sum_of((0, 0, 3)), Share(17, 8))
        self.assertEqual([least_everywhere([0] * many) for many in (1, 2, 3, 4, 7, 8)], [0, 1, 1, 2, 2, 3])
        self.assertEqual(least_everywhere(budgets=(5,)), 0)

    def test_no_budgets(self):
        for budgets in ((), []):
            self.assertEqual(sum_of(budgets), Share(0, 1))
            self.assertIs(can_keep(budgets), True)
            self.assertEqual(least_everywhere(budgets), 0)

    def test_sums_of_just_1_and_just_2(self):
        for depth in range(9):
            for budgets in ([depth] * 2 ** depth, list(range(1, depth + 1)) + [depth]):
                self.assertEqual(sum_of(budgets), Share(1, 1))
                self.assertEqual((can_keep(budgets), least_everywhere(budgets)), (True, 0))
                for tiny in (40, 39, 12):
                    self.check(budgets + [tiny])
                    self.check(budgets + budgets[1:] + [depth + 1, tiny])
                self.assertEqual(sum_of(budgets + [0]), Share(2, 1))
                self.assertEqual((can_keep([0] + budgets), least_everywhere(budgets + [0])), (False, 1))
                self.assertEqual((can_keep(budgets * 4), least_everywhere(budgets * 4)), (False, 2))
        nearly = [0] + list(range(1, 41))
        self.assertEqual((can_keep(nearly), can_keep(nearly + [40])), (True, False))
        self.assertEqual((can_keep([40, 40] + nearly[::-1]), can_keep(nearly[1:] + [0, 39])), (False, False))

    def test_at_the_sizes(self):
        chance = random.Random(16)
        for most in (0, 1, 8, 9, 10, 11, 40):
            self.check([most] * 1000)
        for _ in range(30):
            self.check(drawn_budgets(chance, 1000, 40, chance.choice((0, 5, 8, 9))))
            self.check(tuple(sorted(drawn_budgets(chance, chance.randrange(60), 40, 1))))
        exact = [9] * 1000 + [9] * 23
        self.assertEqual((can_keep(exact), can_keep(exact + [40]), can_keep(exact + [9])), (True, True, False))

    def test_wrong_budgets(self):
        for call in (sum_of, can_keep, least_everywhere):
            check_refused(self, InvalidBudgets, call, {}, "budgets", wrong_budgets([(0, 1, 2), [3, 3], [0]]))

    def test_budgets_stay_as_they_were(self):
        for call in (sum_of, can_keep, least_everywhere):
            budgets = [4, 0, 2, 2]
            call(budgets)
            self.assertEqual(budgets, [4, 0, 2, 2])


class KeeperModel:
    """The guesser of point [17], from what was told alone."""

    def __init__(self, rows, budgets):
        self.rows, self.budgets = rows, budgets

    def living(self, seen):
        return tuple(k for k, row in enumerate(self.rows) if row.startswith(seen))

    def stand(self, seen):
        """The guess behind a word, and the errors along it."""
        errors = 0
        for place in range(len(seen) + 1):
            weights = [Fraction(0), Fraction(0)]
            for k in self.living(seen[:place]):
                if place < len(self.rows[0]):
                    weights[int(self.rows[k][place])] += Fraction(2) ** (errors - self.budgets[k])
            guess = 1 if weights[1] > weights[0] else 0
            if place < len(seen) and int(seen[place]) != guess:
                errors += 1
        return guess, errors


class KeeperTest(unittest.TestCase):
    def check(self, rows, budgets, row, asked=True):
        model = KeeperModel(rows, budgets)
        keeper = Keeper(rows, budgets)
        for place in range(len(row) + 1):
            guess, errors = model.stand(row[:place])
            self.assertEqual((keeper.seen, keeper.errors), (row[:place], errors))
            self.assertEqual(keeper.living(), model.living(row[:place]))
            self.assertIs(type(keeper.living()), tuple)
            if place < len(row):
                if asked:
                    self.assertEqual((keeper.guess(), type(keeper.guess())), (guess, int))
                self.assertIsNone(keeper.tell(int(row[place])))
        for program in model.living(row):
            self.assertLessEqual(2 ** keeper.errors, total_of(budgets) * 2 ** budgets[program])
            if total_of(budgets) < 2:
                self.assertLessEqual(keeper.errors, budgets[program])

    def test_all_few_and_short_rows(self):
        for length, many, most in ((0, 3, 1), (1, 3, 2), (2, 3, 1), (2, 2, 2), (3, 2, 1)):
            for count in range(1, many + 1):
                for rows in itertools.product(all_words(length), repeat=count):
                    for budgets in itertools.product(range(most + 1), repeat=count):
                        for row in all_words(length):
                            self.check(rows, budgets, row, asked=(count + len(row)) % 2 == 0)

    def test_drawn_rows_up_to_the_sizes(self):
        chance = random.Random(17)
        for _ in range(150):
            length, many = chance.randint(0, 12), chance.randint(1, 12)
            pool = [format(chance.getrandbits(length + 1) >> 1, f"0{length}b") if length else "" for _ in range(many)]
            rows = tuple(chance.choice(pool) for _ in range(many))
            budgets = drawn_budgets(chance, many, chance.choice((1, 3, 10)))
            for row in rows[:3] + (("01" * 6)[:length],):
                self.check(rows, budgets, row, asked=chance.random() < 0.5)

    def test_equal_rows_and_equal_weights(self):
        keeper = Keeper(("01", "10"), (3, 3))
        self.assertEqual(keeper.guess(), 0)
        self.assertEqual(Keeper(("01", "10", "11"), (3, 4, 4)).guess(), 0)
        self.assertEqual(Keeper(("01", "10", "11"), (3, 4, 3)).guess(), 1)
        keeper = Keeper(rows=["11", "11", "00"], budgets=[1, 1, 0])
        self.assertEqual((keeper.guess(), keeper.living()), (0, (0, 1, 2)))
        keeper.tell(bit=1)
        self.assertEqual((keeper.guess(), keeper.living(), keeper.errors, keeper.seen), (1, (0, 1), 1, "1"))
        keeper = Keeper(("111",), (0,))
        self.assertEqual([(keeper.guess(), keeper.tell(1)) for _ in range(3)], [(1, None)] * 3)
        self.assertEqual((keeper.errors, keeper.living(), keeper.seen), (0, (0,), "111"))

    def test_a_bit_that_no_program_writes(self):
        keeper = Keeper(("11", "10"), (1, 1))
        keeper.tell(0)
        self.assertEqual((keeper.living(), keeper.errors, keeper.seen, keeper.guess()), ((), 1, "0", 0))
        keeper.tell(1)
        self.assertEqual((keeper.living(), keeper.errors, keeper.seen), ((), 2, "01"))

    def test_budgets_below_the_errors_made(self):
        self.check(("000", "001", "110", "111"), (0, 0, 0, 0), "110")
        self.check(("0000", "0011", "0110", "1010"), (0, 0, 0, 0), "1010")
        self.check(["111", "000", "000"], [0, 1, 2], "111")

    def test_rows_of_no_bits(self):
        for rows in (("",), ["", ""]):
            keeper = Keeper(rows, [0] * len(rows))
            self.assertEqual((keeper.seen, keeper.errors, keeper.living()), ("", 0, tuple(range(len(rows)))))

    def test_guess_changes_nothing_and_two_by_turns(self):
        rows = ("0101", "1100")
        one, other = Keeper(rows, (1, 2)), Keeper(rows, (2, 1))
        model, second = KeeperModel(rows, (1, 2)), KeeperModel(rows, (2, 1))
        seen, told = "", ""
        for a, b in zip("1100", "0101"):
            for _ in range(3):
                self.assertEqual((one.guess(), other.guess()), (model.stand(seen)[0], second.stand(told)[0]))
            one.tell(int(a))
            seen += a
            self.assertEqual((one.seen, other.seen, other.errors), (seen, told, second.stand(told)[1]))
            other.tell(int(b))
            told += b
            self.assertEqual((one.errors, other.errors), (model.stand(seen)[1], second.stand(told)[1]))

    def test_wrong_bits(self):
        keeper = Keeper(("0101", "1100"), (1, 2))
        check_wrong_bits(self, keeper, keeper.tell)
        keeper.tell(1)
        check_wrong_bits(self, keeper, keeper.tell)
        self.assertEqual((keeper.guess(), keeper.errors), (1, 1))

    def test_wrong_rows_and_budgets(self):
        rows = wrong_values([("01", "10"), ["1"], ["", ""]], are_rows)
        check_refused(self, InvalidRows, Keeper, {"rows": None, "budgets": (1, 1)}, "rows", rows)
        check_refused(self, InvalidRows, Keeper, {"rows": None, "budgets": None}, "rows", rows)
        wrong = wrong_budgets([(0, 1)], lambda value: are_numbers(value) and len(value) == 2)
        check_refused(self, InvalidBudgets, Keeper, {"rows": ("01", "10"), "budgets": None}, "budgets",
                      wrong + [(), [1], (1, 1, 1)])
        raised(self, InvalidRows, Keeper, ("0", "01"), (1, 1))
        raised(self, InvalidRows, Keeper, (), ())

    def test_later_changes_have_no_effect(self):
        rows, budgets = ["0101", "1100"], [1, 2]
        keeper = Keeper(rows, budgets)
        self.assertEqual((rows, budgets), (["0101", "1100"], [1, 2]))
        rows[0], budgets[0] = "1111", 9
        rows.pop()
        budgets.pop()
        self.assertEqual((keeper.guess(), keeper.living()), (0, (0, 1)))
        keeper.tell(1)
        self.assertEqual(keeper.living(), (1,))


def sides_of(living, budgets):
    """The lower and the upper side, by the words of point [18]; budgets: those that are left."""
    order = sorted(living, key=lambda program: (budgets[program], program))
    many = next(many for many in range(len(order) + 1) if total_of([budgets[k] for k in order[:many]]) == 1)
    return order[:many], order[many:]


class BreakerModel:
    def __init__(self, budgets):
        self.living, self.budgets = list(range(len(budgets))), dict(enumerate(budgets))
        self.broken, self.row = None, ""

    def answer(self, bit):
        if self.broken is not None:
            return None
        self.living = sides_of(self.living, self.budgets)[1 - bit]
        self.row += str(1 - bit)
        if any(self.budgets[k] == 0 for k in self.living):
            self.broken = min(k for k in self.living if self.budgets[k] == 0)
        else:
            self.budgets = {k: self.budgets[k] - 1 for k in self.living}
        return 1 - bit


def worst_by_breakers(budgets):
    """The worst language, from all that a Breaker can be asked."""
    rows = [""] * len(budgets)
    begun = [()]
    while begun:
        guesses = begun.pop()
        model = BreakerModel(budgets)
        for guess in guesses:
            model.answer(guess)
        if model.broken is None:
            for sign, side in zip("01", sides_of(model.living, model.budgets)):
                for program in side:
                    rows[program] += sign
            begun += [guesses + (0,), guesses + (1,)]
    longest = max(map(len, rows))
    return tuple(row + "0" * (longest - len(row)) for row in rows)


class BreakerTest(unittest.TestCase):
    def check(self, budgets, guesses):
        breaker, model = Breaker(budgets), BreakerModel(budgets)
        worst = worst_language(budgets)
        self.assertEqual((breaker.broken, breaker.row), (None, ""))
        answers = 0
        for guess in itertools.chain(guesses, itertools.repeat(0)):
            answers += 1
            told = breaker.answer(guess)
            self.assertEqual((told, type(told)), (model.answer(guess), int))
            self.assertEqual((breaker.broken, breaker.row), (model.broken, model.row))
            if breaker.broken is not None:
                break
        self.assertLessEqual(answers, len(worst[0]))
        self.assertTrue(worst[breaker.broken].startswith(breaker.row))
        self.assertEqual(len(breaker.row), answers)
        self.assertGreater(answers, budgets[breaker.broken])
        for guess in (0, 1, 1):
            self.assertIsNone(breaker.answer(guess))
            self.assertEqual((breaker.broken, breaker.row), (model.broken, model.row))

    def test_all_short_budgets_and_guesses(self):
        for budgets in short_budgets(5, 3):
            if total_of(budgets) >= 2:
                for guesses in itertools.product((0, 1), repeat=min(len(budgets), 4)):
                    self.check(budgets, guesses)

    def test_up_to_the_sizes(self):
        chance = random.Random(18)
        for _ in range(80):
            budgets = breakable(chance, 12, chance.choice((3, 4, 10)))
            for _ in range(4):
                self.check(budgets, [chance.randrange(2) for _ in range(14)])
                self.check(list(budgets), [0] * 14)
                self.check(budgets, [1] * 14)
        for budgets in (FULL, FULL[::-1], (0,) * 12, (3,) * 12 + (3, 3, 3, 3), (1,) * 4 + (9,) * 8):
            for bit in (0, 1):
                self.check(budgets, [bit] * 14)
            self.check(budgets, [0, 1] * 7)

    def test_told_by_hand(self):
        breaker = Breaker((0, 1, 2, 2))
        self.assertEqual((breaker.answer(0), breaker.broken, breaker.row), (1, None, "1"))
        self.assertEqual((breaker.answer(bit=1), breaker.broken, breaker.row), (0, 1, "10"))
        self.assertEqual((breaker.answer(1), breaker.broken, breaker.row), (None, 1, "10"))
        breaker = Breaker(budgets=[0, 1, 2, 2])
        self.assertEqual((breaker.answer(1), breaker.broken, breaker.row), (0, 0, "0"))
        breaker = Breaker([1, 0, 0])
        self.assertEqual((breaker.answer(0), breaker.broken, breaker.row), (1, 2, "1"))
        breaker = Breaker([0, 0, 0])
        self.assertEqual((breaker.answer(0), breaker.broken, breaker.row), (1, 1, "1"))

    def test_two_by_turns(self):
        pairs = [(Breaker(FULL), BreakerModel(FULL)), (Breaker(FULL[::-1]), BreakerModel(FULL[::-1]))]
        for turn in range(20):
            for k, (breaker, model) in enumerate(pairs):
                guess = (turn * 3 + k) // 2 % 2
                self.assertEqual(breaker.answer(guess), model.answer(guess))
                for one, other in pairs:
                    self.assertEqual((one.broken, one.row), (other.broken, other.row))

    def test_wrong_bits_also_when_a_program_is_broken(self):
        breaker = Breaker((0, 1, 2, 2))
        check_wrong_bits(self, breaker, breaker.answer)
        breaker.answer(0)
        check_wrong_bits(self, breaker, breaker.answer)
        breaker.answer(0)
        breaker.answer(0)
        self.assertIsNotNone(breaker.broken)
        check_wrong_bits(self, breaker, breaker.answer)
        self.assertEqual(state_of(breaker), ["111", 3])

    def test_wrong_budgets(self):
        def is_fine(value):
            return are_numbers(value) and total_of([part for part in value if part < 500]) >= 2

        vast = 10 ** 399
        wrong = wrong_budgets([(0, 1, 2, 2), [0, 0], (1, 1, 1, 1)], is_fine)
        wrong += [(), [], (0,), [1, 1, 1], (0, vast), [vast, 0], (vast,) * 200, (0, 1, 2, 3) + (vast,) * 196]
        for call in (Breaker, worst_language):
            check_refused(self, InvalidBudgets, call, {}, "budgets", wrong)

    def test_later_changes_have_no_effect(self):
        budgets = [0, 1, 2, 2]
        breaker = Breaker(budgets)
        self.assertEqual(budgets, [0, 1, 2, 2])
        budgets[1] = 5
        budgets.pop()
        self.assertEqual((breaker.answer(0), breaker.answer(1), breaker.broken), (1, 0, 1))


class WorstLanguageTest(unittest.TestCase):
    def check(self, budgets):
        rows = worst_language(budgets)
        self.assertIs(type(rows), tuple)
        self.assertEqual(rows, worst_by_breakers(budgets))
        self.assertEqual(worst_language(list(budgets)), rows)
        if len(rows) <= 12:
            self.assertIs(Game(rows, budgets).is_kept(), False)

    def test_all_short_budgets(self):
        for budgets in short_budgets(5, 3):
            if total_of(budgets) >= 2:
                self.check(budgets)

    def test_up_to_the_sizes(self):
        chance = random.Random(19)
        for _ in range(40):
            self.check(breakable(chance, 12, chance.choice((3, 4, 10))))
        for budgets in (FULL, FULL[::-1], (0,) * 12, (3,) * 16):
            self.check(budgets)

    def test_told_by_hand(self):
        self.assertEqual(worst_language((0, 0, 0)), ("0", "1", "1"))
        self.assertEqual(worst_language((0, 1, 2, 2)), ("000", "100", "110", "111"))
        self.assertEqual(worst_language(budgets=[2, 1, 2, 0]), ("110", "100", "111", "000"))
        self.assertEqual(worst_language([1, 1, 1, 1]), ("00", "01", "10", "11"))
        budgets = [1, 0, 1]
        self.assertEqual(worst_language(budgets), ("10", "00", "11"))
        self.assertEqual(budgets, [1, 0, 1])


class PromiseTest(unittest.TestCase):
    def test_can_keep_tells_whether_budgets_can_be_kept_in_all_rows(self):
        for many, length in ((1, 3), (2, 3), (3, 2), (4, 1)):
            for budgets in itertools.product(range(3), repeat=many):
                kept = [Game(rows, budgets).is_kept() for rows in itertools.product(all_words(length), repeat=many)]
                if can_keep(budgets):
                    self.assertTrue(all(kept), budgets)
                else:
                    self.assertIs(Game(worst_language(budgets), budgets).is_kept(), False)
                    if length >= len(worst_language(budgets)[0]):
                        self.assertFalse(all(kept), budgets)


if __name__ == "__main__":
    unittest.main()
