"""Budgets in given rows for guessers with coins, which tell a chance instead of a bit."""

from keptbudgets.checks import check_budgets, check_budgets_of, check_rows
from keptbudgets.shares import Share, greatest_of, half_of, sum_of_halves, sum_of_shares
from keptbudgets.writers import without_flips


class CoinGame:
    """The rows of programs, and the budgets of mean errors, told in halves."""

    def __init__(self, rows, halves):
        check_rows(rows)
        check_budgets_of(rows, halves)
        self._writers = without_flips(rows)
        self._halves = tuple(halves)
        self._beginnings = self._writers.beginnings()
        # For each word: the lowest share that all budgets would need more from there on.
        self._needs = {}
        for word in reversed(self._beginnings):
            self._needs[word] = self._need_at(word)

    def need(self):
        """The lowest Share that, added to all budgets, lets some guesser with coins keep them."""
        return self._needs[""]

    def is_kept(self):
        """Whether the budgets can be kept in these rows with coins."""
        return self.need().over <= 0

    def book(self):
        """For each word behind which a bit comes, ascending, the word and the chance to guess 1."""
        words = [word for word in self._beginnings if not self._writers.is_whole(word)]
        return tuple([(word, self._chance_at(word)) for word in words])

    def _need_at(self, word):
        if self._writers.is_whole(word):
            return greatest_of([Share(-self._halves[program], 2) for program in self._writers.living_at(word)])
        ahead = [self._needs[word + sign] for sign in "01" if word + sign in self._needs]
        if len(ahead) == 1:
            return ahead[0]
        return greatest_of([*ahead, (Share(1, 1) + ahead[0] + ahead[1]) * half_of(1)])

    def _chance_at(self, word):
        if word + "1" not in self._needs:
            return Share(0, 1)
        if word + "0" not in self._needs:
            return Share(1, 1)
        chance = (Share(1, 1) + self._needs[word + "1"] - self._needs[word + "0"]) * half_of(1)
        if chance.over < 0:
            return Share(0, 1)
        return Share(1, 1) if Share(1, 1).is_below(chance) else chance


def mean_errors(book, row):
    """The mean errors that the guesser of a book has on the row."""
    chances = {word: told for word, told in book}
    missed = []
    for place, sign in enumerate(row):
        chance = chances[row[:place]]
        missed.append(chance if sign == "0" else Share(1, 1) - chance)
    return sum_of_shares(missed)


def coin_sum(halves):
    """The sum of 1 / 2 ** h over the halves."""
    check_budgets(halves)
    return sum_of_halves(halves)
