import random
import unittest

from keptbudgets.stacks import Stacks
from helpers import (any_values, check_by_turns, check_is_program, check_programs, check_run, check_whole,
                     check_wrong_many_on_the_way, told_of)
from models import STACKS, first_of, programs_of, some_texts, stacks_told, text_of, word_of

# Each: the text, the given word, and what the first steps return.
TRACES = [
    (".", "", "E"),
    ("0.", "", "NE"),
    ("!.", "", "NE"),
    ("!.", "10", "1E"),
    ("!!!.", "10", "10NE"),
    ("0!.", "", "N0E"),
    ("1!.", "0", "N1E"),
    ("01!!.", "", "NN10E"),
    (">!.", "", "NNE"),
    ("<!.", "", "NNE"),
    (">!<!.", "10", "N0N1E"),
    ("><!.", "10", "NN1E"),
    (">><<!!.", "10", "NNNN10E"),
    (">><!!.", "10", "NNN0NE"),
    ("?!.", "", "N1E"),
    ("?!.", "0", "N1E"),
    (">?!.", "0", "NN0E"),
    ("><?!!.", "0", "NNN10E"),
    ("[..", "", "NE"),
    ("[..", "0", "NE"),
    ("[..", "1", "NNNE"),
    ("[..", "1101", "NNNNNE"),
    ("[.!.", "1101", "NN" * 2 + "N" + "1" + "E"),
    ("[!.!.", "10110", "N0N" + "N1N" + "N" + "NE"),
    ("[0!.!.", "1101", "NN0N" * 2 + "N" + "1E"),
    ("[1.!.", "1", "NNNNNNNNNNNN"),
    ("[[.0!.1!.", "111", "N" + "NN" + "NN" + "N" + "N0N" + "N" + "N1E"),
    ("[[!..!.", "1110", "N" + "N1N" + "N" + "N" + "N" + "NE"),
    ("[[[....", "1101101", "NNN" + "NNN" + "N" + "NNNN" + "N" + "N" + "N" + "N" + "E"),
    ("0[?.!.", "", "NNNE"),
    ("?[>?.<<!!.", "10", "NN" + "NNN" + "N" + "NN" + "10" + "E"),
]


class StacksProgramsTest(unittest.TestCase):
    def test_all_programs_up_to_18_bits(self):
        check_programs(self, Stacks(), lambda length: programs_of(length, STACKS), 18)
        language = Stacks()
        self.assertEqual((language.programs(0), language.programs(length=3)), ((), ("000",)))
        self.assertEqual(language.programs(6), ("001000", "010000", "100000", "101000", "110000", "111000"))

    def test_is_program_and_begin_for_any_value(self):
        others = ["00", "0000", "000000", "111", "011000", ["000"], ("000",), "001", "00a", "000 "]
        check_is_program(self, Stacks(), any_values() + others, ["000"])

    def test_long_words(self):
        language = Stacks()
        self.assertIs(language.is_program(word_of("[" * 11 + "?" + "." * 12, STACKS)), True)
        self.assertIs(language.is_program(word_of("[" * 11 + "?" + "." * 11 + "?", STACKS)), False)
        self.assertIs(language.is_program("011" * 66 + "000" * 66), False)
        self.assertIs(language.is_program("011" * 66 + "000" * 67), True)
        self.assertIs(language.is_program("011" * 65 + "000" * 67), False)


class StacksRunsTest(unittest.TestCase):
    def begin(self, text, given=""):
        return Stacks().begin(word_of(text, STACKS), given)

    def test_traces_told_by_hand(self):
        for text, given, trace in TRACES:
            check_run(self, lambda: self.begin(text, given), told_of(trace))

    def test_all_programs_up_to_12_bits(self):
        language = Stacks()
        for length in (3, 6, 9, 12):
            for program in language.programs(length):
                for given in ("", "0", "1", "110", "1011"):
                    expected = first_of(stacks_told(text_of(program, STACKS), given), 30)
                    check_run(self, lambda: language.begin(program, given), expected)

    def test_programs_of_many_tokens(self):
        chance = random.Random(8)
        for tokens in (5, 8, 13, 23, 24):
            for text in some_texts(chance, tokens, 60, STACKS):
                for many in (0, 3, 40):
                    given = "".join(chance.choice("0111") for _ in range(many))
                    check_run(self, lambda: self.begin(text, given), first_of(stacks_told(text, given), 150))

    def test_given_words_of_40_bits(self):
        given = "1100101" * 5 + "01101"
        self.assertEqual(len(given), 40)
        run = self.begin("!" * 23 + ".", given)
        self.assertEqual((run.go(24), run.written, run.is_ended), (24, given[:23], True))
        run = Stacks().begin(program=word_of("1[!1.", STACKS) + "000", given=given)
        self.assertEqual((run.go(many=10000), run.written), (10000, given))
        run = self.begin(">" * 8 + "<" * 8 + "!" * 7 + ".", given)
        self.assertEqual((run.go(100), run.written), (24, given[:7]))

    def test_runs_of_10000_steps(self):
        for text, given in (("1[1?>1.", ""), ("1[1!1.", "01"), ("1[?!1.", "1"), ("1[01>0><1.", "0"),
                            ("[!?.", "1" * 40)):
            text += "."
            check_whole(self, self.begin(text, given), first_of(stacks_told(text, given), 10000))

    def test_runs_beside_one_another(self):
        language = Stacks()
        begun = [("[!.!.", "10110"), ("[!.!.", "111"), ("1[!1..", "0101"), ("?>?!.", ""), ("[[!..!.", "1110")]
        expected = [first_of(stacks_told(text, given), 10000) for text, given in begun]
        taken = [(expected[k], language.begin(word_of(text, STACKS), given))
                 for k, (text, given) in enumerate(begun) for _ in range(3)]
        check_by_turns(self, taken, 60)

    def test_go_refuses_what_is_no_number_also_after_the_end(self):
        check_wrong_many_on_the_way(self, self.begin("[!.!.", "110"), told_of("N1NNNE"))


if __name__ == "__main__":
    unittest.main()
