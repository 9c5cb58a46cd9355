"""Endlessly many programs: how many have each budget, and from some budget on always as many."""

from keptbudgets.shares import Share, half_of


def endless_sum(counts, each):
    """The sum of 1 / 2 ** b over all programs."""
    filled = 0
    for count in counts:
        filled = 2 * filled + count
    # All behind the counts together weigh as much as each programs more with the last budget in them.
    return Share(2 * (filled + each), 1) * half_of(len(counts))


def endless_can_keep(counts, each):
    """Whether the sum over any finitely many of the programs is below 2."""
    total = endless_sum(counts, each)
    return total.is_below(Share(2, 1)) or (each > 0 and total == Share(2, 1))


def first_part(counts, each):
    """The lowest budget up to which the programs have a sum of at least 2; None if there is none."""
    if endless_can_keep(counts, each):
        return None
    budget = 0
    filled = 0
    while True:
        filled = 2 * filled + (counts[budget] if budget < len(counts) else each)
        if filled >= 2 << budget:
            return budget
        budget += 1
