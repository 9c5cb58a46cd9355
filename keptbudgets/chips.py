"""Programs that err a few times themselves: weights of budgets and flips, and a guesser by them."""

from math import comb

from keptbudgets.checks import check_budgets_of, check_rows
from keptbudgets.hearing import hear
from keptbudgets.shares import Share, half_of, sum_of_shares
from keptbudgets.writers import Writers


def chip_weight(budget, flips):
    """The share of the rows of budget + 1 bits that have at most so many 1s."""
    many = budget + 1
    # Binomial numbers above are 0.
    most = min(flips, many)
    return Share(sum([comb(many, j) for j in range(most + 1)]), 1) * half_of(many)


def chip_sum(budgets, flips):
    """The sum of the weights of all programs."""
    return _sum_of_weights(list(zip(budgets, flips)))


class ChipKeeper:
    """A guesser that keeps the budgets of programs with flips, if their chip_sum is below 1."""

    def __init__(self, rows, budgets, flips):
        check_rows(rows)
        check_budgets_of(rows, budgets)
        self.seen = ""
        self.errors = 0
        self._writers = Writers(rows, flips)
        self._budgets = tuple(budgets)

    def guess(self):
        """The bit that leaves the greater weights if it is told; 0 if both leave the same."""
        return 1 if self._weight_behind("0").is_below(self._weight_behind("1")) else 0

    def tell(self, bit):
        """Tells it the next bit."""
        hear(self, bit)

    def living(self):
        """The programs that may have written what was told, ascending."""
        return self._writers.living_at(self.seen)

    def _weight_behind(self, sign):
        """The sum of the weights if this is told and is an error."""
        word = self.seen + sign
        left = []
        for program in self._writers.living_at(word):
            left.append((self._budgets[program] - self.errors - 1, self._writers.flips_left(program, word)))
        return _sum_of_weights(left)


def _sum_of_weights(pairs):
    return sum_of_shares([_weight_of(budget, flips) for budget, flips in pairs])


def _weight_of(budget, flips):
    """The same as chip_weight; a budget below 0 counts in whole."""
    return Share(1, 1) if budget < 0 else chip_weight(budget, flips)
