import random
import unittest
from fractions import Fraction

from keptbudgets.errors import InvalidNumber, NoProgram
from keptbudgets.listing import count_programs, number_of_program, program_of_number
from keptbudgets.reels import Reels
from keptbudgets.stacks import Stacks
from helpers import any_values, is_int, raised
from models import REELS, STACKS, count_of, programs_of, some_texts, word_of

LANGUAGES = ((Reels(), REELS), (Stacks(), STACKS))


class ListingTest(unittest.TestCase):
    def test_counts_up_to_24_tokens(self):
        for language, signs in LANGUAGES:
            total = Fraction(0)
            for tokens in range(25):
                count = count_programs(language, tokens)
                self.assertIs(type(count), int)
                self.assertEqual(count, count_of(tokens, signs))
                total += Fraction(count, 8 ** tokens)
                self.assertLessEqual(total, 1)
        self.assertEqual([count_programs(Reels(), tokens) for tokens in range(5)], [0, 2, 10, 54, 310])
        self.assertEqual([count_programs(Stacks(), tokens) for tokens in range(5)], [0, 1, 6, 37, 234])
        self.assertEqual(count_programs(language=Reels(), tokens=2), 10)

    def test_all_programs_of_few_tokens(self):
        for language, signs in LANGUAGES:
            for tokens in range(6):
                programs = programs_of(3 * tokens, signs)
                self.assertEqual(count_programs(language, tokens), len(programs))
                for number, program in enumerate(programs):
                    self.assertEqual(program_of_number(language, tokens, number), program)
                    found = number_of_program(language, program)
                    self.assertIs(type(found), int)
                    self.assertEqual(found, number)
        self.assertEqual(program_of_number(language=Reels(), tokens=1, number=1), "111")
        self.assertEqual(number_of_program(language=Reels(), program="111"), 1)

    def test_the_first_and_the_last_number(self):
        for language, signs in LANGUAGES:
            greatest, closer = {REELS: ("110", "111"), STACKS: ("111", "000")}[signs]
            for tokens in range(1, 25):
                count = count_programs(language, tokens)
                first = program_of_number(language, tokens, 0)
                self.assertEqual(first, "001" * (tokens - 1) + "000")
                self.assertEqual(number_of_program(language, first), 0)
                final = program_of_number(language, tokens, count - 1)
                self.assertEqual(number_of_program(language, final), count - 1)
                self.assertEqual(final, greatest * (tokens - 1) + closer)
                for number in (-1, count, count + 1, -count, 10 ** 399):
                    error = raised(self, InvalidNumber, program_of_number, language, tokens, number)
                    self.assertIs(error.number, number)

    def test_programs_of_many_tokens_lead_back_in_order(self):
        chance = random.Random(9)
        for language, signs in LANGUAGES:
            for tokens in (7, 12, 23, 24):
                count = count_programs(language, tokens)
                numbers = sorted({chance.randrange(count) for _ in range(60)} | {0, 1, count - 2, count - 1})
                programs = [program_of_number(language, tokens, number) for number in numbers]
                self.assertEqual(programs, sorted(set(programs)))
                for number, program in zip(numbers, programs):
                    self.assertIs(language.is_program(program), True)
                    self.assertEqual(len(program), 3 * tokens)
                    self.assertEqual(number_of_program(language, program), number)
                for text in some_texts(chance, tokens, 60, signs):
                    number = number_of_program(language, word_of(text, signs))
                    self.assertEqual(program_of_number(language, tokens, number), word_of(text, signs))

    def test_no_program_has_0_tokens(self):
        for language, _ in LANGUAGES:
            self.assertEqual(count_programs(language, 0), 0)
            for number in any_values():
                self.assertIs(raised(self, InvalidNumber, program_of_number, language, 0, number).number, number)

    def test_wrong_numbers(self):
        for language, _ in LANGUAGES:
            for tokens in (1, 2, 3, 24):
                count = count_programs(language, tokens)
                for number in any_values():
                    if is_int(number) and 0 <= number < count:
                        program = program_of_number(language, tokens, number)
                        self.assertEqual(number_of_program(language, program), number)
                        continue
                    error = raised(self, InvalidNumber, program_of_number, language, tokens, number)
                    self.assertIs(error.number, number)
                    named = {"language": language, "tokens": tokens, "number": number}
                    error = raised(self, InvalidNumber, program_of_number, **named)
                    self.assertIs(error.number, number)

    def test_wrong_programs(self):
        for language, signs in LANGUAGES:
            for program in any_values() + ["00", "000000", "001", "011000", ["000"], ("000",), "0000", "000 "]:
                if not (isinstance(program, str) and language.is_program(program)):
                    error = raised(self, NoProgram, number_of_program, language, program)
                    self.assertIs(error.program, program)
                    error = raised(self, NoProgram, number_of_program, language=language, program=program)
                    self.assertIs(error.program, program)
        self.assertEqual(number_of_program(Reels(), "001111"), 1)
        self.assertEqual(raised(self, NoProgram, number_of_program, Stacks(), "001111").program, "001111")


if __name__ == "__main__":
    unittest.main()
