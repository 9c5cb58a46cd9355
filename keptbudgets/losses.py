"""Measures that reach the chances of several sources, lessened by factors."""

from keptbudgets.codes import words_of
from keptbudgets.shares import Share, greatest_of, half_of, sum_of_shares


def greatest_sum(sources, factors, many):
    """The sum, over all words of many bits, of the greatest factor * chance."""
    return sum_of_shares(_greatest_by_word(sources, factors, many))


def measure_for(sources, factors, many):
    """A measure that is at least factor * chance for each source and word; None if there is none."""
    greatest = _greatest_by_word(sources, factors, many)
    left = Share(1, 1) - sum_of_shares(greatest)
    if left.over < 0:
        return None
    more = left * half_of(many)
    return tuple([share + more for share in greatest])


def least_loss(sources, many):
    """The greatest factor for which there is such a measure, if it is the same for all sources."""
    total = greatest_sum(sources, [Share(1, 1)] * len(sources), many)
    return Share(total.under, total.over)


def judge_measure(sources, factors, many, measure):
    """Whether it is a measure of the words of many bits, at least factor * chance for each source."""
    if len(measure) != 1 << many or any([share.over < 0 for share in measure]):
        return False
    greatest = _greatest_by_word(sources, factors, many)
    if any([share.is_below(least) for share, least in zip(measure, greatest)]):
        return False
    return sum_of_shares(measure) == Share(1, 1)


def _greatest_by_word(sources, factors, many):
    """For each word of many bits, ascending, the greatest factor * chance."""
    found = []
    for word in words_of(many):
        found.append(greatest_of([factor * source.chance(word) for source, factor in zip(sources, factors)]))
    return found
