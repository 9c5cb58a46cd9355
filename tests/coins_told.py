"""Point [35] once more: what a book of chances needs, and what no guesser with coins can do with less.

Both are told by the definition of mean errors alone; nothing is taken of the rule for need.
"""

from fractions import Fraction

from helpers import words_up_to


def open_words(rows):
    """The words of fewer bits than the rows that begin one of them, ascending."""
    return [word for word in words_up_to(len(rows[0]) - 1) if any(row.startswith(word) for row in rows)]


def misses_told(chances, row):
    """The mean errors on a row; chances is a dict of the chance to guess 1 at each word."""
    return sum((chances[row[:k]] if sign == "0" else 1 - chances[row[:k]] for k, sign in enumerate(row)), Fraction(0))


def need_of_book(rows, halves, chances):
    """How much more than its budget the worst program needs against this guesser."""
    return max(misses_told(chances, row) - Fraction(half, 2) for row, half in zip(rows, halves))


def bound_of(rows, halves, shares):
    """What any guesser needs, since against programs drawn with these shares it errs so often in the mean."""
    weights = {}
    for row, share in zip(rows, shares):
        for k in range(len(row) + 1):
            weights[row[:k]] = weights.get(row[:k], 0) + share
    missed = sum((min(weights.get(word + "0", 0), weights.get(word + "1", 0)) for word in open_words(rows)),
                 Fraction(0))
    return missed - sum(share * Fraction(half, 2) for share, half in zip(shares, halves))


def worst_shares(rows, halves):
    """Shares of the programs, with the sum 1, that are the worst for a guesser: each part of the tree is tried."""
    def at(word, programs):
        """The bound behind a word, and the shares of its programs that have it."""
        if len(word) == len(rows[0]):
            worst = min(programs, key=lambda k: halves[k])
            return -Fraction(halves[worst], 2), {worst: Fraction(1)}
        sides = [at(word + sign, part) for sign in "01"
                 if (part := [k for k in programs if rows[k].startswith(word + sign)])]
        if len(sides) == 2:
            both = {k: share / 2 for _, shares in sides for k, share in shares.items()}
            sides.append((Fraction(1, 2) + (sides[0][0] + sides[1][0]) / 2, both))
        return max(sides, key=lambda side: side[0])

    found = at("", list(range(len(rows))))[1]
    return [found.get(k, Fraction(0)) for k in range(len(rows))]
