"""Sources once more, and the measures of point [29] from them, in Fractions; and sources that are drawn."""

from fractions import Fraction

from keptbudgets.sources import Source
from helpers import all_words

ROWS = ((1, 1, 2, 0), (0, 0, 5, 2), (3, 2, 3, 1))
EVEN = ((1, 0, 1, 0),)
ZEROS = ((1, 0, 0, 0),)
ONES = ((0, 0, 7, 0),)
MIXED = ((0, 1, 3, 0), (2, 1, 1, 0))
SETS = ((EVEN,), (ZEROS,), (ZEROS, ONES), (EVEN, ONES), (ROWS, EVEN), [ROWS, MIXED, ZEROS], (ROWS, ROWS),
        (MIXED, ONES, ZEROS, EVEN))
LARGEST = tuple(tuple((1000 - k - 7 * state, (state + 1) % 4, 999 - 3 * k - state, (state * k + 2) % 4)
                      for state in range(4)) for k in range(4))


def made(rows_of_all):
    """The sources that have these rows."""
    return type(rows_of_all)([Source(rows) for rows in rows_of_all])


def chance_told(rows, word):
    chance, state = Fraction(1), 0
    for sign in word:
        weights, following = rows[state][0::2], rows[state][1::2]
        chance *= Fraction(weights[int(sign)], sum(weights))
        state = following[int(sign)]
    return chance


def greatest_told(rows_of_all, factors, many):
    """For each word of many bits, ascending, the greatest factor * chance."""
    return [max(factor * chance_told(rows, word) for rows, factor in zip(rows_of_all, factors))
            for word in all_words(many)]


def loss_told(rows_of_all, many):
    return 1 / sum(greatest_told(rows_of_all, [1] * len(rows_of_all), many))


def drawn_rows(chance, states, most):
    rows = []
    for _ in range(states):
        weights = (0, 0)
        while weights == (0, 0):
            weights = (chance.choice((0, 1, chance.randint(0, most))), chance.choice((0, 1, chance.randint(0, most))))
        rows.append((weights[0], chance.randrange(states), weights[1], chance.randrange(states)))
    return tuple(rows)


def drawn_sources(chance, most):
    """The rows of up to four sources of up to four states, with weights up to most."""
    return tuple(drawn_rows(chance, chance.randint(1, 4), most) for _ in range(chance.randint(1, 4)))
