"""Games once more, told by the definitions; and games to try, small ones and drawn ones."""

import functools
import itertools
import random

from keptbudgets.budgets import worst_language
from helpers import all_words, words_up_to


def differences(row, word):
    return sum(a != b for a, b in zip(row, word))


class GameModel:
    """The words of point [19]: what can be kept, from all guesses at each word; nothing of need's rule."""

    def __init__(self, rows, budgets, flips=None):
        self.rows, self.budgets = tuple(rows), tuple(budgets)
        self.flips = (0,) * len(rows) if flips is None else tuple(flips)
        self.length = len(rows[0])
        self.open_words = [word for word in words_up_to(self.length) if self.living(word)]
        self.is_open = set(self.open_words)
        self.keeps = functools.lru_cache(maxsize=None)(self._keeps)

    def living(self, word):
        return [k for k, row in enumerate(self.rows)
                if len(word) <= self.length and differences(row, word) <= self.flips[k]]

    def _keeps(self, word, left):
        """Whether some guesser errs from here on at most left + b(q) times on each row of each q."""
        if word not in self.is_open:
            return True
        if len(word) == self.length:
            return all(self.budgets[k] + left >= 0 for k in self.living(word))
        return any(self.keeps(word + str(guess), left) and self.keeps(word + str(1 - guess), left - 1)
                   for guess in (0, 1))

    def need(self):
        return next(more for more in range(-max(self.budgets) - 1, self.length + 1) if self.keeps("", more))

    def book(self):
        if not self.keeps("", 0):
            return None
        errors, pairs = {"": 0}, []
        for word in self.open_words:
            if len(word) < self.length:
                ahead = [bit for bit in (0, 1) if word + str(bit) in self.is_open]
                fine = self.keeps(word + "0", -errors[word]) and self.keeps(word + "1", -errors[word] - 1)
                guess = ahead[0] if len(ahead) == 1 else 0 if fine else 1
                pairs.append((word, guess))
                for bit in (0, 1):
                    errors[word + str(bit)] = errors[word] + (bit != guess)
        return tuple(pairs)

    def tree(self, word="", errors=0):
        if self.keeps("", 0):
            return None
        below = [k for k in self.living(word) if self.budgets[k] < errors]
        if below:
            return below[0]
        for sign in "01":
            if not self.keeps(word + sign, -errors):
                return self.tree(word + sign, errors)
        return (word, self.tree(word + "0", errors + 1), self.tree(word + "1", errors + 1))

    def takes_book(self, book):
        if [word for word, _ in book] != [word for word in self.open_words if len(word) < self.length]:
            return False
        guesses = dict(map(tuple, book))
        for row in all_words(self.length):
            errors = sum(guesses[row[:k]] != int(row[k]) for k in range(self.length)) if row in self.is_open else 0
            if any(errors > self.budgets[k] for k in self.living(row)):
                return False
        return True

    def takes_tree(self, tree):
        """By the words of point [20]: all knots and leaves below each knot are looked at."""
        def parts(part):
            if isinstance(part, int):
                return [], [part]
            words, leaves = [part[0]], []
            for below in part[1:]:
                more, others = parts(below)
                words, leaves = words + more, leaves + others
            return words, leaves

        def is_tree(part):
            if isinstance(part, int):
                return True
            word = part[0]
            if word not in self.is_open:
                return False
            for sign, below in zip("01", part[1:]):
                words, leaves = parts(below)
                if not all(one.startswith(word + sign) for one in words):
                    return False
                if not all(leaf in self.living(word + sign) for leaf in leaves):
                    return False
                if not is_tree(below):
                    return False
            return True

        def breaks(part, above):
            if isinstance(part, int):
                return 0 <= part < len(self.rows) and above > self.budgets[part]
            return all(breaks(below, above + 1) for below in part[1:])

        return is_tree(tree) and breaks(tree, 0)


def need_from_all_guessers(rows, budgets, flips):
    """The definition itself: all guessers, one guess for each word."""
    length = len(rows[0])
    words = words_up_to(length - 1) if length else []
    found = []
    for guesses in itertools.product((0, 1), repeat=len(words)):
        table = dict(zip(words, guesses))
        found.append(max(
            sum(table[row[:k]] != int(row[k]) for k in range(length)) - budgets[q]
            for row in all_words(length) for q in range(len(rows)) if differences(rows[q], row) <= flips[q]))
    return min(found)


def leaves_of(tree):
    return [tree] if isinstance(tree, int) else leaves_of(tree[1]) + leaves_of(tree[2])


def depth_of(tree):
    return 0 if isinstance(tree, int) else 1 + max(depth_of(tree[1]), depth_of(tree[2]))


def drawn_game(chance, length, most_programs, most_budget, flips=None):
    many = chance.randint(1, most_programs)
    rows = tuple("".join(chance.choice("01") for _ in range(length)) for _ in range(many))
    budgets = tuple(chance.randint(0, most_budget) for _ in range(many))
    told = None if flips is None else tuple(chance.choice(flips) for _ in range(many))
    return rows, budgets, told


def small_games():
    for length, many, most in ((0, 3, 2), (1, 3, 2), (2, 2, 2), (2, 3, 1), (3, 2, 1)):
        for count in range(1, many + 1):
            for rows in itertools.product(all_words(length), repeat=count):
                for budgets in itertools.product(range(most + 1), repeat=count):
                    yield rows, budgets, None
    for length, many in ((0, 2), (1, 2), (2, 2)):
        for rows in itertools.product(all_words(length), repeat=many):
            for budgets in itertools.product(range(3), repeat=many):
                for flips in itertools.product((0, 1, 2, 3), repeat=many):
                    yield rows, budgets, flips


def larger_games(many):
    """Games drawn up to the sizes, and a few at them."""
    chance = random.Random(20)
    for k in range(many):
        yield drawn_game(chance, chance.randint(3, 12), 12, chance.choice((0, 1, 2, 3, 10)))
        yield drawn_game(chance, chance.randint(3, 8), chance.choice((2, 12)), chance.choice((1, 4, 10)),
                         ((0, 1), (0, 1, 2), (0, 0, 8), (12,))[k % 4])
    yield ("0" * 12,) * 12, (10,) * 12, None
    yield tuple(all_words(12)[::341][:12]), (10,) * 12, None
    yield tuple("1" * k + "0" * (12 - k) for k in range(12)), (0,) * 12, None
    yield tuple("01" * 4 for _ in range(12)), (7,) * 12, (12,) * 12
    yield ("01" * 4,), (8,), (12,)
    yield ("00000000", "11111111"), (2, 2), (3, 3)
    full = tuple(range(11)) + (10,)
    yield worst_language(full), full, None
    yield worst_language(full), full[:-1] + (11,), None
