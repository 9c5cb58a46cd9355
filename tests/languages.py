"""Languages once more, told by plain descriptions: what programs they have, and what their runs do.

A description is "reels", "stacks", ("table", entries), ("both", one, other), or ("pair", one, other).
"""

import functools
import itertools

from keptbudgets.joins import Both, Pair
from keptbudgets.reels import Reels
from keptbudgets.stacks import Stacks
from keptbudgets.tables import Table
import models

SIGNS = {"reels": models.REELS, "stacks": models.STACKS}

QUICK = ("table", (("0", ((1, 1), (1, 1), (0, 2)), 1), ("10", ((0, 1),), None), ("110", (), 2), ("111", (), None)))
SLOW = ("table", (("00", ((1, 3), (0, 1), (0, 4)), 3), ("01", ((0, 2), (1, 2), (1, 2), (1, 9)), None),
                  ("100", ((1, 3), (0, 1), (1, 1)), 1), ("101", ((0, 7),), 5), ("11", ((1, 1),) * 6, 2)))
EMPTY = ("table", (("", ((0, 2), (1, 1)), 1),))
NONE = ("table", ())

SOME = ("reels", "stacks", QUICK, SLOW, EMPTY, NONE, ("both", QUICK, SLOW), ("both", NONE, "reels"),
        ("pair", QUICK, SLOW), ("pair", SLOW, QUICK), ("pair", EMPTY, QUICK), ("pair", "reels", "stacks"),
        ("both", ("pair", QUICK, "reels"), "stacks"), ("pair", ("both", QUICK, EMPTY), ("pair", SLOW, EMPTY)),
        ("pair", NONE, QUICK), ("pair", QUICK, NONE), ("both", ("both", EMPTY, QUICK), ("pair", QUICK, QUICK)))


def made(told):
    """The language that is described."""
    if isinstance(told, str):
        return {"reels": Reels, "stacks": Stacks}[told]()
    if told[0] == "table":
        return Table(told[1])
    return {"both": Both, "pair": Pair}[told[0]](made(told[1]), made(told[2]))


def deep(kind, leaves):
    """Leaves, as many as a power of two, joined by this kind level by level."""
    while len(leaves) > 1:
        leaves = [(kind, leaves[k], leaves[k + 1]) for k in range(0, len(leaves), 2)]
    return leaves[0]


def leaning(kind, leaves):
    """Each leaf joined to all the earlier ones."""
    return functools.reduce(lambda one, other: (kind, one, other), leaves)


def remembered(function):
    """The function with its answers kept by the very description: to hash a large one each time takes long."""
    known = {}

    @functools.wraps(function)
    def answer(told, *more):
        key = (id(told), *more)
        if key not in known:
            # The description is kept, too, so that no other one gets its id.
            known[key] = (told, function(told, *more))
        return known[key][1]

    return answer


@remembered
def programs_of(told, length):
    """All its programs of this length, ascending."""
    if isinstance(told, str):
        return tuple(models.programs_of(length, SIGNS[told]))
    if told[0] == "table":
        return tuple(sorted(entry[0] for entry in told[1] if len(entry[0]) == length))
    if told[0] == "both":
        if length == 0:
            return ()
        return tuple(sorted(["0" + one for one in programs_of(told[1], length - 1)]
                            + ["1" + other for other in programs_of(told[2], length - 1)]))
    return tuple(sorted(one + other for many in range(length + 1) for one in programs_of(told[1], many)
                        for other in programs_of(told[2], length - many)))


@remembered
def programs_up_to(told, most):
    return [program for length in range(most + 1) for program in programs_of(told, length)]


def is_program(told, word):
    return word in programs_of(told, len(word))


def steps_of(told, program, given):
    """Yields what each step of a run returns, up to "end"."""
    if told == "reels":
        yield from models.reels_told(models.text_of(program, models.REELS))
    elif told == "stacks":
        yield from models.stacks_told(models.text_of(program, models.STACKS), given)
    elif told[0] == "table":
        writes, end = next(entry[1:] for entry in told[1] if entry[0] == program)
        for bit, steps in writes:
            yield from [None] * (steps - 1) + [bit]
        if end is None:
            yield from itertools.repeat(None)
        yield from [None] * (end - 1) + ["end"]
    elif told[0] == "both":
        yield from steps_of(told[1 + int(program[0])], program[1:], given)
    else:
        cut = cut_of(told, program)
        for answer in steps_of(told[1], program[:cut], given):
            yield None if answer == "end" else answer
        yield from steps_of(told[2], program[cut:], given)


def cut_of(told, program):
    """Where the second program of a pair begins."""
    cuts = [cut for cut in range(len(program) + 1)
            if is_program(told[1], program[:cut]) and is_program(told[2], program[cut:])]
    (cut,) = cuts
    return cut


def first_steps(told, program, given, many):
    return list(itertools.islice(steps_of(told, program, given), many))


@remembered
def writes_of(told, program):
    """The bits that a run writes in its first 3000 steps, begun with "": pairs (step, bit)."""
    answers = enumerate(itertools.islice(steps_of(told, program, ""), 3000), 1)
    return tuple((step, answer) for step, answer in answers if answer in (0, 1))


def long_table(chance, many, steps):
    """A table with so many programs of 6 bits, whose writes have a good part in common."""
    writes = tuple((bit, chance.choice(steps)) for bit in (0, 1, 1, 0, 1, 0, 0, 1) * 5)
    entries = []
    for k in range(many):
        own = tuple((bit, chance.choice(steps)) if chance.random() < 0.1 else (bit, step) for bit, step in writes)
        flipped = chance.randrange(41)
        own = own[:flipped] + tuple((1 - bit, step) for bit, step in own[flipped:flipped + 1]) + own[flipped + 1:]
        entries.append((format(k, "06b"), own, chance.choice((None, 1, 60))))
    return ("table", tuple(entries))


def at_the_sizes(chance):
    """Languages whose programs up to 12 bits are many, or write long rows."""
    table = long_table(chance, 40, (1, 2, 60))
    late = long_table(chance, 40, (59, 60, 61))
    return ("reels", "stacks", ("both", "reels", "stacks"), ("pair", "reels", "stacks"),
            ("pair", ("both", EMPTY, QUICK), ("both", SLOW, "reels")), table, ("both", table, late),
            ("pair", EMPTY, table), deep("both", [QUICK, SLOW, table, "reels"] * 8),
            leaning("pair", [EMPTY, QUICK, EMPTY, SLOW, EMPTY, EMPTY]))
