import copy
import itertools
import random
import unittest

from keptbudgets.errors import Clash, InvalidTable, NoProgram
from keptbudgets.tables import Table
from helpers import (any_values, as_lists, check_by_turns, check_is_program, check_programs, check_run, check_whole,
                     check_wrong_many_on_the_way, is_bits, is_int, parts_replaced, raised, seen_as)

ENTRIES = (
    ("10", ((1, 1), (0, 3), (0, 1)), 2),
    ("0", (), None),
    ("111", ((0, 200),), 200),
    ("1101", (), 1),
    ("1100", ((1, 2),), None),
)


def expected_steps(writes, end, many):
    """What the first steps return, at most many of them."""
    told = []
    for bit, steps in writes:
        told += [None] * (steps - 1) + [bit]
    if end is None:
        told += [None] * many
    else:
        told += [None] * (end - 1) + ["end"]
    return told[:many]


def is_many_steps(value):
    return is_int(value) and 1 <= value <= 200


def are_entries(value):
    def is_row(one):
        return isinstance(one, (tuple, list))

    def is_write(one):
        return is_row(one) and len(one) == 2 and is_int(one[0]) and one[0] in (0, 1) and is_many_steps(one[1])

    return is_row(value) and all(
        is_row(entry) and len(entry) == 3 and is_bits(entry[0]) and is_row(entry[1])
        and all(is_write(one) for one in entry[1]) and (entry[2] is None or is_many_steps(entry[2]))
        for entry in value)


def clash_of(words):
    for k, i in itertools.product(range(len(words)), repeat=2):
        if i < k and (words[i].startswith(words[k]) or words[k].startswith(words[i])):
            return (words[i], words[k])
    return None


class TableTest(unittest.TestCase):
    def test_programs_of_a_length_ascending(self):
        for entries in (ENTRIES, ENTRIES[::-1], as_lists(ENTRIES), [list(ENTRIES[3]), ENTRIES[4]]):
            words = [entry[0] for entry in entries]
            check_programs(self, Table(entries), lambda length: [word for word in words if len(word) == length], 14)
        self.assertEqual(Table(ENTRIES).programs(length=4), ("1100", "1101"))

    def test_no_entries_and_the_empty_program(self):
        for entries in ((), []):
            table = Table(entries)
            self.assertEqual([table.programs(length) for length in range(3)], [(), (), ()])
            self.assertIs(table.is_program(""), False)
            self.assertEqual(raised(self, NoProgram, table.begin, "", "").program, "")
        table = Table(entries=[("", [[1, 1]], 1)])
        self.assertEqual(table.programs(0), ("",))
        self.assertIs(table.is_program(""), True)
        check_run(self, lambda: table.begin("", ""), [1, "end"])

    def test_is_program_and_begin_for_any_value(self):
        for entries in (ENTRIES, [("0", (), 1), ("1", (), 1)]):
            programs = [entry[0] for entry in entries]
            others = ["11", "110", "1111", "100", "00", ["10"], ("0",), "10 "]
            check_is_program(self, Table(entries), any_values() + others + programs, programs)

    def test_runs(self):
        table = Table(ENTRIES)
        for program, writes, end in ENTRIES:
            for given in ("", "0110"):
                check_run(self, lambda: table.begin(program, given), expected_steps(writes, end, 450))
        check_run(self, lambda: table.begin(program="10", given="1"), [1, None, None, 0, 0, None, "end"])

    def test_steps_and_ends_at_1_and_200(self):
        for steps, end in itertools.product((1, 2, 199, 200), (1, 2, 199, 200, None)):
            writes = ((1, steps), (0, steps), (1, 1))
            table = Table((("0", writes, end), ("1", (), end)))
            check_run(self, lambda: table.begin("0", ""), expected_steps(writes, end, 1000))
            check_run(self, lambda: table.begin("1", ""), expected_steps((), end, 300))

    def test_at_the_sizes(self):
        chance = random.Random(4)
        entries = []
        for k in range(40):
            writes = [(chance.randrange(2), chance.choice((1, 2, 5, 200))) for _ in range(40)]
            entries.append((format(k, "012b"), writes, chance.choice((None, 1, 200))))
        table = Table(entries)
        self.assertEqual(table.programs(12), tuple(format(k, "012b") for k in range(40)))
        for program, writes, end in entries:
            expected = expected_steps(writes, end, 10000)
            run = table.begin(program, "1" * 40)
            check_whole(self, run, expected)
            self.assertEqual(run.written, "".join(str(bit) for bit, _ in writes))
        slow = Table([("1", [(1, 200)] * 40, 200)]).begin("1", "")
        self.assertEqual((slow.go(8199), slow.is_ended, slow.written), (8199, False, "1" * 40))
        self.assertEqual((slow.step(), slow.go(1), slow.steps), ("end", 0, 8200))

    def test_runs_beside_one_another(self):
        table = Table(ENTRIES)
        taken = [(expected_steps(writes, end, 10000), table.begin(program, "")) for program, writes, end in ENTRIES * 2]
        check_by_turns(self, taken, 60)

    def test_go_refuses_what_is_no_number_also_after_the_end(self):
        check_wrong_many_on_the_way(self, Table(ENTRIES).begin("10", ""), [1, None, None, 0, 0, None, "end"])

    def test_wrong_entries(self):
        tried = any_values()
        for entries in (ENTRIES, as_lists(ENTRIES), [("0", [(0, 200)], 200)]):
            tried.extend(parts_replaced(entries, any_values()))
        tried += [(("0", (), 1, 1),), (("0", ()),), (("0", ((0, 1, 1),), 1),), (("0", ((0,),), 1),), (("0", "", 1),)]
        tried += [(("0", ("01",), 1),), ("0", (), 1), ("abc",), {}, {"0": 1}, (("0", ((0, 1),), 0),), "01"]
        for value in tried:
            if not are_entries(value):
                self.assertIs(raised(self, InvalidTable, Table, value).entries, value)
                self.assertIs(raised(self, InvalidTable, Table, entries=value).entries, value)
            else:
                words = [entry[0] for entry in value]
                if clash_of(words) is None:
                    self.assertTrue(all(Table(value).is_program(word) for word in words))
                else:
                    error = raised(self, Clash, Table, value)
                    self.assertEqual((error.first, error.second), clash_of(words))

    def test_clash_has_the_words_at_the_places_of_first_clash(self):
        for words, first, second in (
                (("0", "0"), "0", "0"), (("01", "1", "0"), "01", "0"), (("", "1"), "", "1"), (("1", ""), "1", ""),
                (("00", "1", "10", "0"), "1", "10"), (("00", "01", "1", "0", "1"), "00", "0")):
            for entries in ([[word, [], None] for word in words], tuple((word, ((0, 1),), 1) for word in words)):
                error = raised(self, Clash, Table, entries)
                self.assertEqual((error.first, error.second), (first, second))

    def test_entries_are_looked_at_before_the_clash(self):
        for wrong in (("1", (), 0), ("1", ((2, 1),), 1), ("x", (), 1), None):
            entries = (("0", (), 1), ("0", (), 1), wrong)
            self.assertIs(raised(self, InvalidTable, Table, entries).entries, entries)

    def test_entries_stay_as_they_were_and_later_changes_have_no_effect(self):
        entries = as_lists(ENTRIES)
        before = seen_as(entries)
        table = Table(entries)
        early = table.begin("10", "")
        self.assertEqual(seen_as(entries), before)
        kept = copy.deepcopy(entries)
        entries[0][1][0][0] = 0
        entries[0][1][1][1] = 1
        entries[0][1].pop()
        entries[0][2] = 9
        entries[1][0] = "1"
        entries.pop()
        for program, writes, end in kept:
            check_run(self, lambda: table.begin(program, ""), expected_steps(writes, end, 450))
        self.assertEqual((early.go(100), early.written), (7, "100"))
        self.assertEqual(table.programs(4), ("1100", "1101"))


if __name__ == "__main__":
    unittest.main()
