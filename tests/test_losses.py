import itertools
import random
import unittest
from fractions import Fraction

from keptbudgets.losses import greatest_sum, judge_measure, least_loss, measure_for
from keptbudgets.shares import Share
from keptbudgets.sources import Source
from helpers import as_fraction, as_share, check_calls, seen_as
from sources_told import (EVEN, LARGEST, MIXED, ONES, ROWS, SETS, ZEROS, drawn_sources, greatest_told, loss_told, made)

PARTS = (Fraction(0), Fraction(1), Fraction(1, 2), Fraction(2, 3), Fraction(1, 7))
TINY = Fraction(1, 10 ** 300)


def shares_of(fractions):
    return tuple(as_share(fraction) for fraction in fractions)


def measure_told(rows_of_all, factors, many):
    greatest = greatest_told(rows_of_all, factors, many)
    if sum(greatest) > 1:
        return None
    return tuple(share + (1 - sum(greatest)) / 2 ** many for share in greatest)


def is_measure(rows_of_all, factors, many, measure):
    greatest = greatest_told(rows_of_all, factors, many)
    return (len(measure) == 2 ** many and sum(measure) == 1 and all(share >= 0 for share in measure)
            and all(share >= least for share, least in zip(measure, greatest)))


def near(measure):
    """Sequences that a measure might be taken for."""
    yield measure
    yield ()
    yield measure[:-1]
    yield measure[1:]
    for more in (Fraction(0), Fraction(1, 3), Fraction(-1), TINY):
        yield measure + (more,)
        yield (more,) + measure
    yield measure * 2
    for place in range(len(measure)):
        for more in (TINY, -TINY, Fraction(1), -measure[place], -measure[place] - TINY):
            moved = list(measure)
            moved[place] += more
            yield tuple(moved)
            moved[place - 1] -= more
            yield tuple(moved)
    yield tuple(Fraction(1, len(measure)) for _ in measure)
    yield (Fraction(1),) + (Fraction(0),) * (len(measure) - 1)
    yield (Fraction(0),) * len(measure)
    yield (Fraction(2), Fraction(-1)) + (Fraction(0),) * (len(measure) - 2)


class LossesTest(unittest.TestCase):
    def check(self, rows_of_all, factors, many):
        """What greatest_sum and measure_for return; the measure, told in Fractions."""
        named = {"sources": made(rows_of_all), "factors": shares_of(factors), "many": many}
        total = sum(greatest_told(rows_of_all, factors, many))
        measure = measure_told(rows_of_all, factors, many)
        check_calls(self, greatest_sum, named, total)
        check_calls(self, measure_for, named, measure)
        if measure is not None:
            self.assertTrue(is_measure(rows_of_all, factors, many, measure))
            self.assertIs(judge_measure(**named, measure=shares_of(measure)), True)
        return measure

    def check_judged(self, rows_of_all, factors, many, tried):
        named = {"sources": made(rows_of_all), "factors": shares_of(factors), "many": many}
        taken = 0
        for measure in tried:
            expected = is_measure(rows_of_all, factors, many, measure)
            taken += expected
            check_calls(self, judge_measure, {**named, "measure": shares_of(measure)}, expected)
        return taken

    def test_short_words(self):
        for rows_of_all in SETS:
            for many in range(4):
                for factors in itertools.product(PARTS, repeat=min(2, len(rows_of_all))):
                    self.check(rows_of_all, factors + (Fraction(1, 3),) * (len(rows_of_all) - 2), many)

    def test_words_of_no_bits(self):
        for factors in itertools.product(PARTS, repeat=2):
            self.assertEqual(self.check((ROWS, EVEN), factors, 0), (Fraction(1),))
        self.assertEqual(greatest_sum(made((ROWS, EVEN)), [Share(1, 3), Share(1, 2)], 0), Share(1, 2))
        self.check_judged((ROWS, EVEN), (Fraction(1, 3), Fraction(1, 2)), 0,
                          [(), (Fraction(1),), (Fraction(1, 2),), (Fraction(2),), (Fraction(1, 2),) * 2, (Fraction(-1),)])

    def test_told_by_hand(self):
        sources = (Source(ZEROS), Source(EVEN))
        halves = (Share(1, 2), Share(1, 2))
        self.assertEqual(greatest_sum(sources=sources, factors=halves, many=1), Share(3, 4))
        self.assertEqual(measure_for(sources, halves, 1), (Share(5, 8), Share(3, 8)))
        self.assertEqual(greatest_sum(sources, (Share(1, 1), Share(1, 1)), 2), Share(7, 4))
        self.assertIsNone(measure_for(sources, (Share(1, 1), Share(1, 1)), 2))
        self.assertEqual(least_loss(sources=sources, many=2), Share(4, 7))
        self.assertEqual(least_loss([Source(ZEROS), Source(ONES)], 3), Share(1, 2))
        self.assertIs(judge_measure(sources, halves, 1, (Share(1, 2), Share(1, 2))), True)
        self.assertIs(judge_measure(sources, halves, 1, [Share(5, 6), Share(1, 6)]), False)
        self.assertIs(judge_measure(sources, halves, 1, [Share(1, 2), Share(1, 3)]), False)

    def test_factors_of_0_and_of_1(self):
        for rows_of_all in SETS:
            for many in range(4):
                nothing = (Fraction(0),) * len(rows_of_all)
                self.assertEqual(set(self.check(rows_of_all, nothing, many)), {Fraction(1, 2 ** many)})
                for k in range(len(rows_of_all)):
                    only = nothing[:k] + (Fraction(1),) + nothing[k + 1:]
                    self.assertEqual(self.check(rows_of_all, only, many),
                                     tuple(greatest_told([rows_of_all[k]], [1], many)))

    def test_a_sum_of_just_1_and_just_above_it(self):
        for rows_of_all in SETS[2:] + ((LARGEST[0], LARGEST[1]),):
            for many in range(1, 4):
                loss = loss_told(rows_of_all, many)
                all_alike = (loss,) * len(rows_of_all)
                measure = self.check(rows_of_all, all_alike, many)
                self.assertEqual(measure, tuple(greatest_told(rows_of_all, all_alike, many)))
                self.check(rows_of_all, tuple(factor - TINY for factor in all_alike), many)
                if loss < 1:
                    above = tuple(factor + TINY for factor in all_alike)
                    self.assertIsNone(self.check(rows_of_all, above, many))
                    self.assertEqual(self.check_judged(rows_of_all, above, many, near(measure)), 0)

    def test_measures_that_are_judged(self):
        for rows_of_all in SETS:
            for many in range(3):
                for factors in (Fraction(1, len(rows_of_all)), loss_told(rows_of_all, many), Fraction(0)):
                    factors = (factors,) * len(rows_of_all)
                    measure = measure_told(rows_of_all, factors, many)
                    self.assertGreater(self.check_judged(rows_of_all, factors, many, near(measure)), 0)

    def test_a_measure_that_falls_below_at_one_word(self):
        rows_of_all, factors = (ROWS, MIXED), (Fraction(1, 3), Fraction(1, 2))
        named = {"sources": made(rows_of_all), "factors": shares_of(factors), "many": 3}
        least = greatest_told(rows_of_all, factors, 3)
        for low, high in itertools.permutations(range(8), 2):
            for more, expected in ((Fraction(0), True), (TINY, least[low] < TINY)):
                moved = list(least)
                moved[low] -= more
                moved[high] += 1 - sum(moved)
                self.assertIs(judge_measure(**named, measure=shares_of(moved)), expected and min(moved) >= 0)

    def test_least_loss(self):
        for rows_of_all in SETS + (LARGEST[:2],):
            before = Fraction(1)
            for many in range(6):
                loss = loss_told(rows_of_all, many)
                check_calls(self, least_loss, {"sources": made(rows_of_all), "many": many}, loss)
                total = as_fraction(self, greatest_sum(made(rows_of_all), [Share(1, 1)] * len(rows_of_all), many))
                self.assertEqual(total * loss, 1)
                self.assertTrue(before <= total <= len(rows_of_all))
                before = total

    def test_there_is_a_measure_exactly_if_the_sum_is_at_most_1(self):
        chance = random.Random(40)
        found = {True: 0, False: 0}
        for _ in range(200):
            rows_of_all = drawn_sources(chance, 5)
            many = chance.randint(0, 3)
            factors = tuple(Fraction(chance.randint(0, 8), 8) for _ in rows_of_all)
            total = sum(greatest_told(rows_of_all, factors, many))
            measure = self.check(rows_of_all, factors, many)
            found[total <= 1] += 1
            self.assertEqual(measure is not None, total <= 1)
            if total > 1:
                scaled = tuple(share / total for share in greatest_told(rows_of_all, factors, many))
                self.assertEqual(self.check_judged(rows_of_all, factors, many, near(scaled)), 0)
        self.assertGreater(min(found.values()), 30)

    def test_at_the_sizes(self):
        factors = tuple(Fraction(10 ** 399 - k, 4 * 10 ** 399 - k - 1) for k in range(4))
        ones = (Fraction(1),) * 4
        loss = loss_told(LARGEST, 8)
        for tried in (factors, ones, (loss,) * 4):
            named = {"sources": made(LARGEST), "factors": shares_of(tried), "many": 8}
            self.assertEqual(seen_as(greatest_sum(**named)), seen_as(sum(greatest_told(LARGEST, tried, 8))))
            self.assertEqual(seen_as(measure_for(**named)), seen_as(measure_told(LARGEST, tried, 8)))
        self.assertEqual(seen_as(least_loss(made(LARGEST), 8)), seen_as(loss))
        measure = measure_told(LARGEST, (loss,) * 4, 8)
        named = {"sources": made(LARGEST), "factors": shares_of((loss,) * 4), "many": 8}
        self.assertIs(judge_measure(**named, measure=shares_of(measure)), True)
        self.assertIs(judge_measure(**named, measure=shares_of(measure[1:] + measure[:1])), False)
        # Shares of 400 digits each, whose sum has some ten thousand.
        parts = [Fraction(1, 10 ** 399 + 2 * k + 1) for k in range(256)]
        self.assertIs(judge_measure(made((EVEN,)), [Share(0, 1)], 8, shares_of(parts)), False)
        parts = [Fraction(k, 255 * 128) for k in range(256)]
        self.assertIs(judge_measure(made((EVEN,)), [Share(0, 1)], 8, shares_of(parts)), True)
        self.assertIs(judge_measure(made((EVEN,)), [Share(1, 512)], 8, shares_of(parts)), False)


if __name__ == "__main__":
    unittest.main()
