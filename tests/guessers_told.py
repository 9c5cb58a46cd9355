"""What point [24] to [26] tell of guessers and chances, from the whole runs of programs each time."""

from fractions import Fraction

from languages import programs_up_to, remembered, writes_of


@remembered
def on_time(told, program, patience):
    """The word of its first bits, each within patience steps of the one before."""
    bits, before = "", 0
    for step, bit in writes_of(told, program):
        if step - before > patience:
            break
        bits, before = bits + str(bit), step
    return bits


@remembered
def living(told, most, patience, row):
    return [program for program in programs_up_to(told, most) if on_time(told, program, patience)[:len(row)] == row]


def weight_of(programs):
    return sum((Fraction(1, 2 ** len(program)) for program in programs), Fraction(0))


def weights_ahead(told, most, patience, row):
    return [weight_of(living(told, most, patience, row + sign)) for sign in "01"]


def guess_of(told, most, patience, row):
    zero, one = weights_ahead(told, most, patience, row)
    return 1 if one > zero else 0


def patient_bit(told, program, patience, place):
    """The bit at this place, if it is written within (place + 1) * patience steps; or None."""
    writes = writes_of(told, program)
    return writes[place][1] if len(writes) > place and writes[place][0] <= (place + 1) * patience else None


def misses(told, program, patience, row):
    return sum(patient_bit(told, program, patience, place) != int(sign) for place, sign in enumerate(row))


def forgiving_weights(told, most, patience, row):
    """For each program its weight where this row was told."""
    return {program: Fraction(1, 2 ** (len(program) + misses(told, program, patience, row)))
            for program in programs_up_to(told, most)}


def forgiving_guess(told, most, patience, row):
    totals = [Fraction(0), Fraction(0)]
    for program, weight in forgiving_weights(told, most, patience, row).items():
        bit = patient_bit(told, program, patience, len(row))
        if bit is not None:
            totals[bit] += weight
    return 1 if totals[1] > totals[0] else 0


@remembered
def by_programs(told, most, patience, row):
    """P of point [26]."""
    if row == "":
        return Fraction(1)
    before = row[:-1]
    ahead = weights_ahead(told, most, patience, before)
    part = Fraction(1, 2) if sum(ahead) == 0 else ahead[int(row[-1])] / sum(ahead)
    return by_programs(told, most, patience, before) * part


def chance_of(told, most, patience, row):
    return (Fraction(1, 2 ** len(row)) + by_programs(told, most, patience, row)) / 2


def rows_to_try(told, most, length):
    """A row without any program, and rows that programs write; all of them of this length."""
    rows = ["0" * length, "1" * length, ("0110100" * 6)[:length]]
    for program in programs_up_to(told, most):
        bits = "".join(str(bit) for _, bit in writes_of(told, program)[:length])
        rows += [(bits + "0" * length)[:length], (bits + "1" * length)[:length]]
    return sorted(set(rows), key=lambda row: (hash_of(row), row))


def rows_on_time(told, most, patience, length):
    """Some rows of this length that are written without being late."""
    rows = {on_time(told, program, patience)[:length] for program in programs_up_to(told, most)}
    return sorted((row for row in rows if len(row) == length), key=lambda row: (hash_of(row), row))


def hash_of(row):
    """Some order that has nothing to do with the rows, and is always the same."""
    return (int("1" + row, 2) * 2654435761) % 65537
