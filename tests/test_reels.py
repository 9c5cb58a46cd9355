import random
import unittest

from keptbudgets.reels import Reels
from helpers import (any_values, check_by_turns, check_is_program, check_programs, check_run, check_whole,
                     check_wrong_many_on_the_way, told_of)
from models import REELS, first_of, programs_of, reels_told, some_texts, text_of, word_of

# Each: the text, and what the first steps return, as told_of reads it.
TRACES = [
    (".", "E"),
    ("*", "NNNN"),
    ("0.", "0E"),
    ("1.", "1E"),
    ("0*", "0N0N0N"),
    ("+.", "NE"),
    ("=.", "NE"),
    ("~.", "NE"),
    ("=*", "NNNN"),
    ("~~1.", "NN1E"),
    ("01=.", "0101E"),
    ("01~.", "0110E"),
    ("1==.", "1" + "1" + "11" + "E"),
    ("0~~.", "01" + "10" + "E"),
    ("01=*", "01" + "01" + "N" + "01" + "010101" + "N" + "01" + "01" * 7 + "N"),
    ("[..", "NNE"),
    ("[*.", "NNNNNN"),
    ("[.*", "NNNNNN"),
    ("[**", "NNNNN"),
    ("[0..", "N0NE"),
    ("[0*.", "N0N0N0N"),
    ("[0.*", "N0NN" + "N0NN"),
    ("+[0..", "NN0N0NE"),
    ("++[0.1.", "NNN0N0N0N1E"),
    ("+[+..", "NN" + "NN" + "NN" + "E"),
    ("+[+.[1..", "NN" + "NNNN" + "N" + "1N" * 4 + "E"),
    ("+[[+..[0..", "NN" + "N" + "NN" * 2 + "N" + "N" + "NN" * 4 + "N" + "N" + "0N" * 8 + "E"),
    ("+[[1..0.", "NN" + "N1N1NN" + "N1N1NN" + "0E"),
    ("[+[1.*.", "N" + "NN1N1NN" + "NN1N1N1NN"),
    ("1[=.0~.", "1N1N0" + "001" + "E"),
    ("[[[....", "NNNNNNE"),
    ("+[.0.", "NNNN0E"),
    ("0[~*.", "0N" + "1N" + "10N" + "1001N" + "10010110N"),
]


class ReelsProgramsTest(unittest.TestCase):
    def test_all_programs_up_to_18_bits(self):
        check_programs(self, Reels(), lambda length: programs_of(length, REELS), 18)
        language = Reels()
        self.assertEqual((language.programs(0), language.programs(length=3)), ((), ("000", "111")))
        self.assertEqual(language.programs(6)[:4], ("001000", "001111", "010000", "010111"))

    def test_is_program_and_begin_for_any_value(self):
        others = ["00", "0000", "000000", "111000", "000111", "111111", ["000"], ("000",), "001", "00a", "000 "]
        check_is_program(self, Reels(), any_values() + others, ["000", "111"])

    def test_long_words(self):
        language = Reels()
        self.assertIs(language.is_program(word_of("[" * 11 + "0" + "." * 6 + "*" * 6, REELS)), True)
        self.assertIs(language.is_program(word_of("[" * 11 + "0" + "." * 11 + "0", REELS)), False)
        self.assertIs(language.is_program("011" * 133), False)
        self.assertIs(language.is_program("011" * 66 + "000" * 66), False)
        self.assertIs(language.is_program("011" * 66 + "000" * 67), True)
        self.assertIs(language.is_program("011" * 65 + "111" * 67), False)


class ReelsRunsTest(unittest.TestCase):
    def begin(self, text, given=""):
        return Reels().begin(word_of(text, REELS), given)

    def test_traces_told_by_hand(self):
        for text, trace in TRACES:
            check_run(self, lambda: self.begin(text), told_of(trace))

    def test_all_programs_up_to_12_bits(self):
        language = Reels()
        for length in (3, 6, 9, 12):
            for program in language.programs(length):
                expected = first_of(reels_told(text_of(program, REELS)), 40)
                check_run(self, lambda: language.begin(program, "01"), expected)

    def test_programs_of_many_tokens(self):
        chance = random.Random(7)
        for tokens in (5, 8, 13, 23, 24):
            for text in some_texts(chance, tokens, 60, REELS):
                check_run(self, lambda: self.begin(text), first_of(reels_told(text), 150))

    def test_the_given_word_plays_no_part(self):
        for text, trace in TRACES:
            for given in ("", "0", "1011", "01" * 20):
                run = self.begin(text, given)
                self.assertEqual([run.step() for _ in told_of(trace)], told_of(trace))
        run = Reels().begin(program="001000", given="1")
        self.assertEqual((run.step(), run.step(), run.written), (0, "end", "0"))

    def test_the_run_of_the_overview(self):
        run = self.begin("0[~*.")
        self.assertEqual((run.go(21), run.written, run.steps), (21, "0110100110010110", 21))
        self.assertIs(run.is_ended, False)

    def test_runs_of_10000_steps(self):
        for text in ("0*", "01[~*.", "[[[=1+*..*", "+" * 11 + "[[0.+.*", "++++++[[[[[1.....*", "[+[0.=*.", "1=~*"):
            check_whole(self, self.begin(text), first_of(reels_told(text), 10000))

    def test_the_longest_doubling(self):
        text = "0" + "=" * 12 + "."
        run = self.begin(text)
        self.assertEqual((run.go(10000), run.written, run.is_ended), (4097, "0" * 4096, True))

    def test_runs_beside_one_another(self):
        language = Reels()
        texts = ["0[~*.", "+[1..", "01=.", "[+[0.*.", "1*"]
        programs = [word_of(text, REELS) for text in texts]
        expected = [first_of(reels_told(text), 10000) for text in texts]
        taken = [(expected[k], language.begin(programs[k], "")) for k in range(len(texts)) for _ in range(3)]
        check_by_turns(self, taken, 80)

    def test_go_refuses_what_is_no_number_also_after_the_end(self):
        check_wrong_many_on_the_way(self, self.begin("+[01.."), told_of("NN01N01NE"))


if __name__ == "__main__":
    unittest.main()
