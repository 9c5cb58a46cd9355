"""What several tests share: wrong values, and looks at arguments before and behind a call."""

import copy
import itertools
from fractions import Fraction

from keptbudgets.errors import InvalidNumber, NoProgram
from keptbudgets.shares import Share


def nested(inner, deep, kind):
    """inner within so many tuples or lists of one."""
    for _ in range(deep):
        inner = kind([inner])
    return inner


def any_values():
    """Values of every kind that point [2] lets an argument be."""
    return [
        None, True, False, -1, 0, 1, 2, 3, 24, 200, 201, 10 ** 399, -(10 ** 399),
        "", "0", "1", "01", "000", "2", "a", " ", "0 1", "01\n", "\n", "\x00", "\u0660\u0661", "[", ".", "0a" * 200,
        "(", "0" * 400, "1" * 399 + "x",
        (), [], (None,), [None], ((),), [[]], (True,), [False], (0,), [1], (1, 1), ("0", "1"), ["0", "a"],
        ("", None), (("0", "1"), ["1"]), [("0", [], None), 1], (10 ** 399,), [-(10 ** 399)],
        nested("0", 10, tuple), nested(1, 10, list), nested(None, 9, tuple),
        tuple([None] * 200), ["2"] * 200, [0] * 200,
    ]


def parts_replaced(value, others):
    """The value, at each place in it, with that part replaced by each of the others."""
    for other in others:
        yield copy.deepcopy(other)
    if isinstance(value, (tuple, list)):
        for place in range(len(value)):
            for part in parts_replaced(value[place], others):
                parts = list(value)
                parts[place] = part
                yield type(value)(parts)


def opened(value):
    """The value with all objects of the package in it told by what they hold; a Fraction stands for a Share."""
    if isinstance(value, (tuple, list)):
        return type(value)([opened(part) for part in value])
    if isinstance(value, dict):
        return {key: opened(part) for key, part in value.items()}
    if isinstance(value, Fraction):
        return ("Share", opened({"over": value.numerator, "under": value.denominator}))
    if type(value).__module__.startswith("keptbudgets"):
        return (type(value).__name__, opened(vars(value)))
    # Python does not write integers of some thousand digits in base ten.
    return hex(value) if is_int(value) and abs(value) > 10 ** 500 else value


def seen_as(value):
    """What a value looks like, kinds of sequences and of integers included."""
    return repr(opened(value))


def check_calls(test, call, named, expected, by_name=()):
    """A call by place and by name, with tuples and with lists, returns this and leaves alone what was passed."""
    for values in (named, {name: as_lists(value) for name, value in named.items()}):
        before = seen_as(values)
        by_place = [value for name, value in values.items() if name not in by_name]
        test.assertEqual(seen_as(call(*by_place, **{name: values[name] for name in by_name})), seen_as(expected))
        test.assertEqual(seen_as(call(**values)), seen_as(expected))
        test.assertEqual(seen_as(values), before)


def as_lists(value):
    """The value with all tuples in it made lists."""
    return [as_lists(part) for part in value] if isinstance(value, (tuple, list)) else value


def raised(test, error, call, *given, **named):
    """The error of exactly this class that a call raises; what was passed stays as it was."""
    before = seen_as((given, named))
    with test.assertRaises(error) as caught:
        call(*given, **named)
    test.assertIs(type(caught.exception), error)
    test.assertEqual(seen_as((given, named)), before)
    return caught.exception


def is_int(value):
    return type(value) is int


def is_bits(value):
    return type(value) is str and set(value) <= {"0", "1"}


def told_of(signs):
    """What steps return, told by a sign each: N stands for None, E for "end", 0 and 1 for the bit."""
    return [{"N": None, "E": "end", "0": 0, "1": 1}[sign] for sign in signs]


def check_run(test, begin, expected):
    """Goes through a run by step() and by go(many); expected: what its first steps return.

    begin() gives a new run each time. The run is as long as expected if that ends with "end".
    """
    run = begin()
    check_stand(test, run, [])
    for done, answer in enumerate(expected, 1):
        told = run.step()
        test.assertEqual(told, answer)
        test.assertIs(type(told), type(answer))
        check_stand(test, run, expected[:done])
    for many in (1, 2, 7):
        other = begin()
        test.assertEqual(other.go(0), 0)
        for done in range(0, len(expected), many):
            check_stand(test, other, expected[:done])
            test.assertEqual(other.go(many=min(many, len(expected) - done)), min(many, len(expected) - done))
        check_stand(test, other, expected)
    if expected[-1:] == ["end"]:
        whole = begin()
        test.assertEqual(whole.go(10 ** 399), len(expected))
        check_ended(test, whole, expected)
        check_ended(test, run, expected)


def check_by_turns(test, taken, turns):
    """Takes runs on by turns, by step() and go(many); taken: pairs of all that a run's steps return, and the run."""
    for turn in range(turns):
        for k, (expected, run) in enumerate(taken):
            before = run.steps
            if (turn + k) % 3 == 0:
                many = (turn * 5 + k) % 9
                test.assertEqual(run.go(many), min(many, len(expected) - before))
            else:
                test.assertEqual(run.step(), expected[before] if before < len(expected) else "end")
            check_stand(test, run, expected[:run.steps])


def check_whole(test, run, expected):
    """Takes a run on by 10000 steps at once; expected: what these return, fewer if it ends."""
    test.assertEqual(run.go(many=10000), len(expected))
    check_stand(test, run, expected)


def check_stand(test, run, told):
    """What a run is like behind steps that returned this."""
    written = "".join(str(answer) for answer in told if is_int(answer))
    test.assertEqual((run.steps, run.written), (len(told), written))
    test.assertIs(run.is_ended, told[-1:] == ["end"])


def check_ended(test, run, told):
    """A run that has ended stays as it is."""
    for _ in range(3):
        test.assertEqual(run.step(), "end")
        test.assertEqual(run.go(5), 0)
        test.assertEqual(run.go(many=0), 0)
        check_stand(test, run, told)


def check_wrong_many(test, run, told):
    """go refuses what is no number, and changes nothing by it."""
    for value in any_values():
        if not (is_int(value) and value >= 0):
            test.assertIs(raised(test, InvalidNumber, run.go, value).number, value)
            test.assertIs(raised(test, InvalidNumber, run.go, many=value).number, value)
            check_stand(test, run, told)


def check_wrong_many_on_the_way(test, run, expected):
    """The same at the beginning, on the way, and behind the end, with which expected ends."""
    for many in (0, 1, 2, len(expected)):
        run.go(many)
        check_wrong_many(test, run, expected[:run.steps])
    check_ended(test, run, expected)


def check_is_program(test, language, values, programs):
    """is_program and begin for any values, of which just these are programs."""
    for value in values:
        expected = isinstance(value, str) and value in programs
        test.assertIs(language.is_program(value), expected)
        test.assertIs(language.is_program(program=value), expected)
        if expected:
            check_stand(test, language.begin(value, ""), [])
        else:
            test.assertIs(raised(test, NoProgram, language.begin, value, "").program, value)
            test.assertIs(raised(test, NoProgram, language.begin, program=value, given="1").program, value)


def check_programs(test, language, programs_of, longest):
    """programs(length) up to longest, and is_program for all words up to 12 bits."""
    for length in range(longest + 1):
        programs = programs_of(length)
        found = language.programs(length)
        test.assertIs(type(found), tuple)
        test.assertEqual(found, tuple(sorted(programs)))
        test.assertEqual(language.programs(length=length), found)
        if length <= 12:
            for row in itertools.product("01", repeat=length):
                test.assertIs(language.is_program("".join(row)), "".join(row) in programs)


def are_rows(value):
    """Whether it is rows, as point [15] tells."""
    return (isinstance(value, (tuple, list)) and len(value) > 0 and all(is_bits(part) for part in value)
            and len(set(map(len, value))) == 1)


def are_numbers(value):
    return isinstance(value, (tuple, list)) and all(is_int(part) and part >= 0 for part in value)


def all_words(length):
    """All words of this length, ascending."""
    return ["".join(row) for row in itertools.product("01", repeat=length)]


def words_up_to(longest):
    return [word for length in range(longest + 1) for word in all_words(length)]


def wrong_values(good, is_fine):
    """Any values, and the good ones with a part replaced by any value, as far as they are not fine."""
    tried = any_values()
    for value in good:
        tried.extend(parts_replaced(value, any_values()))
    return [value for value in tried if not is_fine(value)]


def check_refused(test, error, call, given, name, values):
    """call(**given) refuses each of these values under this name, by place and by name."""
    attribute = {"InvalidNumber": "number", "InvalidBudgets": "budgets", "InvalidRows": "rows",
                 "NoProgram": "program"}[error.__name__]
    test.assertGreater(len(values), 30)
    for value in values:
        named = {**given, name: value}
        test.assertIs(getattr(raised(test, error, call, **named), attribute), value)
        flips = {key: named.pop(key) for key in ("flips",) if key in named and call.__name__ != "ChipKeeper"}
        test.assertIs(getattr(raised(test, error, call, *named.values(), **flips), attribute), value)


def check_wrong_bits(test, guesser, call):
    """A call with a bit refuses all else, and what state_of tells of the object stays as it was."""
    before = state_of(guesser)
    for value in any_values() + [2, -1, True, False, "0", "1", (0,), [1], None]:
        if not (is_int(value) and value in (0, 1)):
            test.assertIs(raised(test, InvalidNumber, call, value).number, value)
            test.assertIs(raised(test, InvalidNumber, call, bit=value).number, value)
            test.assertEqual(state_of(guesser), before)


def state_of(guesser):
    """All that a guesser or a Breaker tells of itself without being told anything."""
    state = [getattr(guesser, name) for name in ("seen", "errors", "row", "broken") if hasattr(guesser, name)]
    for name in ("living", "weight"):
        if hasattr(guesser, name):
            told = getattr(guesser, name)()
            state.append(told if name == "living" else (told.over, told.under))
    return state


def as_fraction(test, share):
    """The fraction that a Share tells, which is in lowest terms."""
    test.assertIs(type(share), Share)
    fraction = Fraction(share.over, share.under)
    test.assertEqual((share.over, share.under), (fraction.numerator, fraction.denominator))
    return fraction


def as_share(fraction):
    """The Share that a Fraction tells."""
    return Share(fraction.numerator, fraction.denominator)
