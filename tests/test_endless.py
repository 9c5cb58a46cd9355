import itertools
import random
import unittest
from fractions import Fraction

from keptbudgets.budgets import can_keep
from keptbudgets.endless import endless_can_keep, endless_sum, first_part
from keptbudgets.shares import Share
from helpers import as_lists, check_calls, is_int


def parts_told(counts, each, last):
    """The sums of the programs with a budget of at most k, for k from 0 to last."""
    total, found = Fraction(0), []
    for budget in range(last + 1):
        total += Fraction(counts[budget] if budget < len(counts) else each, 2 ** budget)
        found.append(total)
    return found


class EndlessTest(unittest.TestCase):
    def check(self, counts, each):
        named = {"counts": tuple(counts), "each": each}
        parts = parts_told(counts, each, len(counts) + 40)
        # What is behind the last part is each * (1 / 2 ** k + 1 / 2 ** (k + 1) + ..).
        total = parts[-1] + Fraction(each, 2 ** (len(counts) + 40))
        first = next((budget for budget, part in enumerate(parts) if part >= 2), None)
        check_calls(self, endless_sum, named, total)
        check_calls(self, first_part, named, first)
        check_calls(self, endless_can_keep, named, first is None)
        self.assertEqual(first is None, total < 2 or (each >= 1 and total <= 2))
        if first is not None:
            self.assertLess(first, len(counts) + 30)
        return first, total

    def test_all_short_counts(self):
        for length in range(5):
            for counts in itertools.product((0, 1, 2, 3), repeat=length):
                for each in (0, 1, 2, 3, 5):
                    self.check(counts, each)

    def test_no_counts(self):
        expected = {0: (None, 0), 1: (None, 2), 2: (0, 4), 3: (0, 6), 10 ** 9: (0, 2 * 10 ** 9)}
        for each, told in expected.items():
            self.assertEqual(self.check((), each), told)
        self.assertEqual((endless_sum((), 0), endless_can_keep((), 0), first_part((), 0)), (Share(0, 1), True, None))
        self.assertEqual((endless_sum([], 1), endless_can_keep([], 1), first_part([], 1)), (Share(2, 1), True, None))

    def test_told_by_hand(self):
        self.assertEqual(endless_sum(counts=(1, 0, 3), each=2), Share(9, 4))
        self.assertIs(endless_can_keep(counts=(1, 0, 3), each=2), False)
        self.assertEqual(first_part(counts=(1, 0, 3), each=2), 3)
        self.assertEqual((endless_sum((1, 1), 1), endless_can_keep((1, 1), 1)), (Share(2, 1), True))
        self.assertEqual((endless_sum((1, 2), 0), endless_can_keep((1, 2), 0), first_part((1, 2), 0)),
                         (Share(2, 1), False, 1))
        self.assertEqual((endless_sum((0, 1), 1), first_part((0, 1), 1)), (Share(1, 1), None))
        self.assertEqual((first_part((2,), 0), first_part((2,), 9), first_part((0, 4), 0)), (0, 0, 1))

    def test_sums_of_just_2_and_beside_it(self):
        for length in range(1, 41):
            # With at most 30 counts the last one fills the sum up to just 2, or misses it by one program.
            filled = 2 ** (length - 1) if length <= 30 else 10 ** 9
            for more in (-1, 0, 1):
                counts = (1,) + (0,) * (length - 2) + (filled + more,) if length > 1 else (2 + more,)
                first, total = self.check(counts, 0)
                self.assertEqual(first, length - 1 if length <= 30 and more >= 0 else None)
                self.assertEqual(total < 2, first is None)
                self.check(counts, 1)
            # With one more program for each budget the sum of 2 is never reached; a second one reaches it.
            self.assertEqual(self.check((1,) * length, 1), (None, 2))
            self.assertEqual(self.check((1,) * (length - 1) + (2,), 1)[0], length - 1)
            self.assertEqual(self.check((1,) * (length - 1) + (0,), 2), (None, 2))

    def test_the_last_of_counts_and_behind_it(self):
        self.assertEqual(self.check((1, 1, 1, 2), 0)[0], 3)
        self.assertEqual(self.check((1, 1, 1, 1), 2)[0], 4)
        self.assertEqual(self.check((1, 1, 0), 3)[0], 4)
        for length in (1, 3, 40):
            # It comes the later the fewer programs each tells beyond 1.
            self.assertEqual(self.check((1,) * length, 2)[0], length)
            self.assertEqual(self.check((1,) * (length - 1) + (0,), 3)[0], length + 1)

    def test_at_the_sizes(self):
        chance = random.Random(60)
        self.check((10 ** 9,) * 40, 10 ** 9)
        self.check((0,) * 40, 10 ** 9)
        self.check((0,) * 40, 1)
        latest = 0
        for length in (0, 1, 20, 40):
            for each in (0, 1, 2, 3, 1000, 2 ** 29, 2 ** 29 + 1, 10 ** 9 - 1, 10 ** 9):
                # A sum that is just above 2, or just 2: 2 * each is filled up with the last counts.
                left = (2 << max(0, length - 1)) - each
                for more in (-1, 0, 1, 2):
                    counts = [0] * length
                    rest = left + more
                    for budget in reversed(range(length)):
                        take = min(10 ** 9, max(0, rest))
                        if (rest - take) % 2:
                            take -= 1
                        counts[budget] = take
                        rest = (rest - take) // 2
                    first, _ = self.check(counts, each)
                    latest = max(latest, -1 if first is None else first - length)
                counts = [chance.choice((0, 0, 0, 1, chance.randint(0, 10 ** 9))) for _ in range(length)]
                self.check(counts, each)
        self.assertEqual(latest, 29)

    def test_budgets_up_to_each_number(self):
        chance = random.Random(61)
        for _ in range(150):
            counts = [chance.choice((0, 0, 1, 1, 2, 3)) for _ in range(chance.randint(0, 8))]
            each = chance.choice((0, 1, 2, 3))
            first = first_part(counts, each)
            budgets = []
            for k in range(len(counts) + 20):
                budgets.extend([k] * (counts[k] if k < len(counts) else each))
                self.assertIs(can_keep(budgets), first is None or first > k)

    def test_kinds_of_what_is_returned(self):
        self.assertTrue(is_int(first_part((5,), 0)))
        self.assertIs(type(endless_sum([1], 0)), Share)
        self.assertEqual(as_lists(((1,), 2)), [[1], 2])


if __name__ == "__main__":
    unittest.main()
