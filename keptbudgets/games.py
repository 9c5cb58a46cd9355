"""Budgets in given rows: whether they can be kept, with a book of guesses or a tree of forced errors."""

from keptbudgets.checks import check_budgets_of, check_rows
from keptbudgets.kinds import is_sequence
from keptbudgets.writers import Writers, without_flips


class Game:
    """The rows of programs with their budgets, and perhaps with flips."""

    def __init__(self, rows, budgets, *, flips=None):
        self._writers = _checked_writers(rows, budgets, flips)
        self._budgets = tuple(budgets)
        self._beginnings = self._writers.beginnings()
        # For each word: the lowest number of errors that all budgets would need more from there on.
        self._needs = {}
        for word in reversed(self._beginnings):
            self._needs[word] = self._need_at(word)

    def need(self):
        """The lowest integer that, added to all budgets, lets some guesser keep them."""
        return self._needs[""]

    def is_kept(self):
        """Whether the budgets can be kept in these rows."""
        return self.need() <= 0

    def book(self):
        """For each word behind which a bit comes the guess, ascending; None if budgets cannot be kept."""
        if not self.is_kept():
            return None
        errors = {"": 0}
        pairs = []
        for word in self._beginnings:
            if self._writers.is_whole(word):
                break
            guess = self._guess_at(word, errors[word])
            pairs.append((word, guess))
            errors[word + str(guess)] = errors[word]
            errors[word + str(1 - guess)] = errors[word] + 1
        return tuple(pairs)

    def tree(self):
        """A tree of forced errors that breaks the budgets; None if they can be kept."""
        return None if self.is_kept() else self._tree_at("", 0)

    def _need_at(self, word):
        if self._writers.is_whole(word):
            return max([-self._budgets[program] for program in self._writers.living_at(word)])
        ahead = [self._needs[word + sign] for sign in "01" if word + sign in self._needs]
        if len(ahead) == 1:
            return ahead[0]
        return max(max(ahead), min(ahead) + 1)

    def _is_lost(self, word, errors):
        return word in self._needs and self._needs[word] + errors > 0

    def _guess_at(self, word, errors):
        if word + "1" not in self._needs:
            return 0
        if word + "0" not in self._needs:
            return 1
        return 1 if self._is_lost(word + "0", errors) or self._is_lost(word + "1", errors + 1) else 0

    def _tree_at(self, word, errors):
        for program in self._writers.living_at(word):
            if self._budgets[program] < errors:
                return program
        for sign in "01":
            if self._is_lost(word + sign, errors):
                return self._tree_at(word + sign, errors)
        return (word, self._tree_at(word + "0", errors + 1), self._tree_at(word + "1", errors + 1))


def judge_book(rows, budgets, book, *, flips=None):
    """Whether a book tells a guess for just the words that need one, and its guesser keeps the budgets."""
    writers = _checked_writers(rows, budgets, flips)
    words = writers.beginnings()
    if [word for word, _ in book] != [word for word in words if not writers.is_whole(word)]:
        return False
    guesses = {word: str(bit) for word, bit in book}
    for row in words:
        if writers.is_whole(row):
            errors = len([1 for place, sign in enumerate(row) if guesses[row[:place]] != sign])
            if min([budgets[program] for program in writers.living_at(row)]) < errors:
                return False
    return True


def judge_tree(rows, budgets, tree, *, flips=None):
    """Whether a tree is one of forced errors that breaks the budgets."""
    return _breaks(_checked_writers(rows, budgets, flips), budgets, tree, "", 0)


def _breaks(writers, budgets, tree, beginning, knots):
    """The same for a part of a tree, with the beginning of its rows and the number of knots above it."""
    if not is_sequence(tree):
        return tree in writers.living_at(beginning) and budgets[tree] < knots
    word, lower, upper = tree
    if not word.startswith(beginning) or not writers.is_begun_by(word):
        return False
    if not _breaks(writers, budgets, lower, word + "0", knots + 1):
        return False
    return _breaks(writers, budgets, upper, word + "1", knots + 1)


def _checked_writers(rows, budgets, flips):
    check_rows(rows)
    check_budgets_of(rows, budgets)
    return without_flips(rows) if flips is None else Writers(rows, flips)
