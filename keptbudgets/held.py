"""Runs of Reels() and Stacks() that are kept as values and taken up again."""

from keptbudgets.reels import Reels, ReelsRun
from keptbudgets.stacks import StacksRun


def stand_of(run):
    """A tuple that tells all of a run."""
    begun = (run.signs, run.steps, run.written, run.is_ended, run.place)
    if isinstance(run, ReelsRun):
        return (*begun, run.counter, tuple(run.blocks), run.copied, run.to_copy)
    return (*begun, tuple(run.stack_a), tuple(run.stack_b))


def run_from(language, stand):
    """A run that is as the one was that this stand was taken of."""
    signs, steps, written, is_ended, place, *rest = stand
    run = _reels_run(signs, rest) if isinstance(language, Reels) else _stacks_run(signs, rest)
    run.steps = steps
    run.written = written
    run.is_ended = is_ended
    run.place = place
    return run


def _reels_run(signs, rest):
    counter, blocks, copied, to_copy = rest
    run = ReelsRun(signs)
    run.counter = counter
    run.blocks = [(first, times) for first, times in blocks]
    run.copied = copied
    run.to_copy = to_copy
    return run


def _stacks_run(signs, rest):
    stack_a, stack_b = rest
    run = StacksRun(signs, "")
    run.stack_a = list(stack_a)
    run.stack_b = list(stack_b)
    return run
