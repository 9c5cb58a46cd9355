import itertools
import random
import unittest

from keptbudgets.errors import NoProgram
from keptbudgets.joins import Both, Pair, cut_pair
from keptbudgets.reels import Reels
from keptbudgets.stacks import Stacks
from keptbudgets.tables import Table
from keptbudgets.texts import read_reels, read_stacks
from helpers import (all_words, any_values, check_by_turns, check_is_program, check_run, check_whole,
                     check_wrong_many_on_the_way, is_bits, raised, told_of)
from languages import (EMPTY, NONE, QUICK, SLOW, SOME, cut_of, deep, first_steps, is_program, leaning, made,
                       programs_of, programs_up_to, steps_of)

JOINED = [told for told in SOME if told[0] in ("both", "pair")]
TINY = ("table", (("0", ((1, 1),), 1), ("10", ((0, 2),), None), ("11", (), 1)))
LONE = ("table", (("", ((1, 1),), 1),))
DEEP = (deep("both", [TINY, LONE] * 16), deep("pair", [LONE, TINY, LONE, LONE] * 8), deep("pair", [LONE] * 32),
        leaning("both", ["reels", TINY, "stacks", QUICK, LONE, SLOW]),
        leaning("pair", [TINY, LONE, TINY, TINY, LONE, TINY]),
        ("both", ("pair", ("both", ("pair", ("both", TINY, LONE), TINY), LONE), TINY), "reels"),
        ("pair", TINY, ("both", LONE, ("pair", TINY, ("both", "stacks", ("pair", LONE, TINY))))))


class ProgramsTest(unittest.TestCase):
    def check(self, told, longest):
        language = made(told)
        for length in range(longest + 1):
            found = language.programs(length)
            self.assertIs(type(found), tuple)
            self.assertEqual(found, programs_of(told, length))
            self.assertEqual(language.programs(length=length), found)
            for word in all_words(length) if length <= 9 else found:
                self.assertIs(language.is_program(word), word in found)

    def test_all_programs_and_all_short_words(self):
        for told in JOINED:
            self.check(told, 12)

    def test_five_inside_one_another(self):
        for told in DEEP:
            self.check(told, 12)

    def test_told_by_hand(self):
        table = Table([("0", (), 1), ("11", (), 1)])
        self.assertEqual(Both(table, Table([("", (), 1)])).programs(1), ("1",))
        self.assertEqual(Both(one=table, other=table).programs(2), ("00", "10"))
        self.assertEqual(Both(table, table).programs(3), ("011", "111"))
        self.assertEqual(Both(table, table).programs(0), ())
        self.assertEqual(Pair(one=table, other=table).programs(3), ("011", "110"))
        self.assertEqual([Pair(table, table).programs(length) for length in range(6)],
                         [(), (), ("00",), ("011", "110"), ("1111",), ()])
        self.assertEqual(Pair(Table([("", (), 1)]), Table([("", (), 1)])).programs(0), ("",))

    def test_no_program_begins_another(self):
        for told in JOINED:
            programs = sorted(programs_up_to(told, 12))
            for one, other in zip(programs, programs[1:]):
                self.assertFalse(other.startswith(one))

    def test_any_value(self):
        for told in JOINED[:6] + list(DEEP[:2]):
            programs = programs_up_to(told, 12)
            wrong = [program + "0" for program in programs[:9]] + [program[:-1] for program in programs[:9]]
            wrong += [program + "\n" for program in programs[:3]] + ["2" + program for program in programs[:3]]
            wrong += [[program] for program in programs[:3]] + ["a0", "b", "0a", " "]
            values = any_values() + [word for word in wrong if word not in programs] + programs[:20]
            check_is_program(self, made(told), values, programs)

    def test_strings_of_400_characters_five_inside_one_another(self):
        strings = ["0" * 400, "1" * 400, "01" * 200, "001" * 133 + "0", "0" * 399 + "x", "110" * 133]
        for told in (deep("pair", ["reels", "stacks"] * 16), leaning("pair", ["reels"] * 6), DEEP[5],
                     deep("both", ["stacks"] * 32), leaning("both", [QUICK] * 6),
                     ("pair", "reels", leaning("pair", ["stacks"] * 5))):
            check_is_program(self, made(told), strings, [])
        for told in (leaning("pair", ["reels"] * 6), ("pair", "reels", leaning("pair", ["stacks"] * 5))):
            self.assertIs(made(told).is_program("000" * 6), True)
            self.assertIs(made(told).is_program("000" * 7), False)
        long = read_reels("[" * 11 + "." * 12)
        pair = Pair(Reels(), Pair(Reels(), Stacks()))
        self.assertIs(pair.is_program(long + long + read_stacks("0!" * 11 + ".")), True)


class CutPairTest(unittest.TestCase):
    def test_all_short_programs(self):
        for told in JOINED + list(DEEP):
            if told[0] == "pair":
                pair = made(told)
                for program in programs_up_to(told, 9):
                    cut = cut_of(told, program)
                    self.assertEqual(cut_pair(pair, program), (program[:cut], program[cut:]))
                    self.assertIs(type(cut_pair(pair=pair, program=program)), tuple)

    def test_told_by_hand(self):
        pair = Pair(Reels(), Stacks())
        program = read_reels("0[.*") + read_stacks("1[0.!.")
        self.assertEqual(cut_pair(pair, program), (read_reels("0[.*"), read_stacks("1[0.!.")))
        self.assertEqual(cut_pair(made(("pair", EMPTY, EMPTY)), ""), ("", ""))
        self.assertEqual(cut_pair(made(("pair", EMPTY, QUICK)), "10"), ("", "10"))
        self.assertEqual(cut_pair(made(("pair", QUICK, EMPTY)), "10"), ("10", ""))

    def test_what_is_no_program(self):
        for told in (("pair", QUICK, SLOW), ("pair", EMPTY, EMPTY), ("pair", NONE, QUICK),
                     leaning("pair", [QUICK] * 6)):
            pair = made(told)
            for value in any_values() + ["0", "10", "0000", "0001", ["0", "00"], ("0", "00")]:
                if not (is_bits(value) and len(value) < 20 and is_program(told, value)):
                    self.assertIs(raised(self, NoProgram, cut_pair, pair, value).program, value)
                    self.assertIs(raised(self, NoProgram, cut_pair, pair=pair, program=value).program, value)


class RunsTest(unittest.TestCase):
    def test_runs_of_short_programs(self):
        for told in JOINED + list(DEEP):
            language = made(told)
            for program, given in itertools.product(programs_up_to(told, 9)[:40], ("", "0110")):
                check_run(self, lambda: language.begin(program=program, given=given),
                          first_steps(told, program, given, 60))

    def test_the_seam(self):
        pair = made(("pair", QUICK, SLOW))
        self.assertEqual(pair.begin("000", "").go(many=100), 16)
        check_run(self, lambda: pair.begin("000", ""), told_of("11N0NNN10NNN0NNE"))
        check_run(self, lambda: pair.begin("11000", ""), told_of("NNNN10NNN0NNE"))
        check_run(self, lambda: pair.begin("1000", ""), told_of("0" + "N" * 60))
        check_run(self, lambda: pair.begin("11111", ""), told_of("N" * 60))
        check_run(self, lambda: made(("pair", EMPTY, EMPTY)).begin("", ""), told_of("N01NN01E"))
        check_run(self, lambda: Pair(Table([("", (), 1)]), Table([("", (), 1)])).begin("", ""), told_of("NE"))

    def test_copies_see_only_what_their_own_program_wrote(self):
        pair = Pair(Reels(), Reels())
        program = read_reels("01.") + read_reels("=1=.")
        check_run(self, lambda: pair.begin(program, ""), told_of("01NN11E"))

    def test_both_are_begun_with_the_given_word(self):
        pair = Pair(Stacks(), Stacks())
        program = read_stacks("!!.") + read_stacks("!.")
        check_run(self, lambda: pair.begin(program, "01"), told_of("01N0E"))
        both = Both(Table([("", (), 1)]), Pair(Table([("", (), 1)]), Stacks()))
        check_run(self, lambda: both.begin("1" + read_stacks("!!!."), "10"), told_of("N10NE"))

    def test_a_run_of_both_is_that_of_its_language(self):
        both = Both(Reels(), Stacks())
        check_run(self, lambda: both.begin("0" + read_reels("0=~."), "11"), told_of("0011E"))
        check_run(self, lambda: both.begin("1" + read_stacks("!!."), "10"), told_of("10E"))

    def test_long_runs(self):
        chance = random.Random(14)
        writes = tuple((chance.randrange(2), chance.choice((1, 60, 200))) for _ in range(40))
        table = ("table", (("0", writes, 200), ("1", writes, 1)))
        for told, program in ((("pair", table, table), "01"), (leaning("pair", [table, table, TINY, table, LONE, TINY]),
                                                              "01" + "0" + "1" + "0"),
                              (("pair", TINY, "reels"), "0" + read_reels("0[~*."))):
            run = made(told).begin(program, "")
            check_whole(self, run, first_steps(told, program, "", 10000))

    def test_runs_beside_one_another(self):
        taken = []
        for told in (("pair", QUICK, SLOW), ("both", QUICK, SLOW), ("pair", "reels", "stacks"), DEEP[4]):
            language = made(told)
            for program in programs_up_to(told, 9)[:6] * 2:
                taken.append((first_steps(told, program, "01", 300), language.begin(program, "01")))
        check_by_turns(self, taken, 50)

    def test_go_refuses_what_is_no_number_also_after_the_end(self):
        expected = first_steps(("pair", QUICK, SLOW), "000", "", 100)
        check_wrong_many_on_the_way(self, made(("pair", QUICK, SLOW)).begin("000", ""), expected)
        expected = first_steps(("both", QUICK, SLOW), "100", "", 100)
        check_wrong_many_on_the_way(self, made(("both", QUICK, SLOW)).begin("100", ""), expected)

    def test_steps_of_descriptions_end_with_end(self):
        self.assertEqual(list(steps_of(("pair", EMPTY, EMPTY), "", ""))[-1], "end")


if __name__ == "__main__":
    unittest.main()
