import itertools
import random
import unittest

from keptbudgets.errors import InvalidText, NoProgram
from keptbudgets.reels import Reels
from keptbudgets.stacks import Stacks
from keptbudgets.texts import read_reels, read_stacks, write_reels, write_stacks
from helpers import any_values, raised
from models import REELS, STACKS, begins_a_program, is_program_text, some_texts, texts_of, word_of

BOTH = ((read_reels, write_reels, Reels(), REELS), (read_stacks, write_stacks, Stacks(), STACKS))


class TextsTest(unittest.TestCase):
    def check_refused(self, read, text, at):
        for error in (raised(self, InvalidText, read, text), raised(self, InvalidText, read, text=text)):
            self.assertIs(error.text, text)
            self.assertEqual(error.at, at, repr(text)[:50])
            self.assertIs(type(error.at), int)

    def test_the_signs(self):
        self.assertEqual(write_reels("000"), ".")
        self.assertEqual(write_reels("001010100101110011111000"), "01+=~[*.")
        self.assertEqual(write_stacks("001010100101110111011000000"), "01><!?[..")
        self.assertEqual(read_reels("01+=~[*."), "001010100101110011111000")
        self.assertEqual(read_stacks("01><!?[.."), "001010100101110111011000000")
        self.assertEqual((read_reels("*"), read_reels(text="."), read_stacks(text=".")), ("111", "000", "000"))
        self.assertEqual((write_reels(program="111"), write_stacks(program="000")), ("*", "."))

    def test_all_programs_of_few_tokens(self):
        for read, write, language, signs in BOTH:
            for tokens in range(6):
                for text in texts_of(tokens, signs):
                    program = word_of(text, signs)
                    self.assertEqual(read(text), program)
                    self.assertEqual(write(program), text)
                    self.assertIs(language.is_program(program), True)

    def test_programs_of_many_tokens(self):
        chance = random.Random(10)
        for read, write, _, signs in BOTH:
            for tokens in (7, 12, 23, 24):
                for text in some_texts(chance, tokens, 60, signs):
                    self.assertEqual(read(text), word_of(text, signs))
                    self.assertEqual(write(word_of(text, signs)), text)

    def test_beginnings_of_all_short_texts(self):
        for read, _, _, signs in BOTH:
            texts = [text for tokens in range(1, 6) for text in texts_of(tokens, signs)]
            beginnings = {text[:many] for text in texts for many in range(3)}
            for many in range(3):
                for row in itertools.product(signs + "xX?!>- ", repeat=many):
                    text = "".join(row)
                    if not is_program_text(text, signs):
                        at = max(length for length in range(many + 1) if text[:length] in beginnings)
                        self.check_refused(read, text, at)

    def test_beginnings_of_longer_texts(self):
        chance = random.Random(11)
        for read, _, _, signs in BOTH:
            drawn = ["".join(chance.choice(signs + "[[?") for _ in range(many))
                     for many in range(3, 14) for _ in range(60)]
            for tokens in (3, 9, 24):
                for text in some_texts(chance, tokens, 30, signs):
                    cut = chance.randrange(tokens)
                    drawn += [text[:cut], text + chance.choice(signs), text + text]
                    drawn += [text[:cut] + "x" + text[cut:], text[:cut] + "\n" + text[cut + 1:]]
            for text in drawn:
                if is_program_text(text, signs):
                    self.assertEqual(read(text), word_of(text, signs))
                else:
                    at = max(many for many in range(len(text) + 1) if begins_a_program(text[:many], signs))
                    self.check_refused(read, text, at)

    def test_at(self):
        for text, at in (("", 0), ("0", 1), ("0[", 2), ("0[.", 3), ("..", 1), ("0*1", 2), ("x.", 0), ("0x.", 1),
                         (" .", 0), ("0[1..0", 5), (". ", 1), (".\n", 1), ("0>.", 1), ("[[x", 2), ("0" * 400, 400),
                         ("[" * 400, 400), ("0" * 399 + "!", 399), ("." * 400, 1), ("[" * 199 + "." * 201, 399)):
            self.check_refused(read_reels, text, at)
        for text, at in (("", 0), ("0*", 1), ("0[", 2), ("..", 1), ("0+.", 1), ("?", 1), ("[!.", 3), ("[!..!", 4),
                         ("?" * 400, 400), ("[" * 400, 400), ("." * 400, 1)):
            self.check_refused(read_stacks, text, at)

    def test_texts_of_hundreds_of_blocks(self):
        text = "[" * 199 + "." * 200
        self.assertEqual(read_reels(text), word_of(text, REELS))
        self.assertEqual(read_stacks(text), word_of(text, STACKS))

    def test_wrong_texts_of_every_kind(self):
        for read, _, _, signs in BOTH:
            for value in any_values() + [["."], (".",), ("0", "."), 0, b"."]:
                if not isinstance(value, str):
                    self.check_refused(read, value, 0)
                elif not is_program_text(value, signs):
                    at = max(many for many in range(len(value) + 1) if begins_a_program(value[:many], signs))
                    self.check_refused(read, value, at)

    def test_wrong_programs(self):
        for _, write, language, _ in BOTH:
            others = ["00", "000000", "001", "011000", ["000"], ("000",), "0000", "0[.", ".", "\u0660" * 3]
            for value in any_values() + others:
                if not (isinstance(value, str) and value in ("000",)):
                    self.assertIs(raised(self, NoProgram, write, value).program, value)
                    self.assertIs(raised(self, NoProgram, write, program=value).program, value)
        self.assertEqual(raised(self, NoProgram, write_stacks, "111").program, "111")


if __name__ == "__main__":
    unittest.main()
