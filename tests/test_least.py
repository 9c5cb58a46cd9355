import random
import unittest
from fractions import Fraction

from keptbudgets.joins import Both
from keptbudgets.least import chance_to_write, least_program, share_of_ended, told_words, untold
from keptbudgets.reels import Reels
from keptbudgets.shares import Share
from keptbudgets.stacks import Stacks
from keptbudgets.tables import Table
from keptbudgets.texts import read_reels, read_stacks
from helpers import all_words, as_fraction, check_calls, words_up_to
from languages import EMPTY, NONE, QUICK, SLOW, SOME, at_the_sizes, long_table, made, programs_up_to
from least_told import least_told, tellers, weight_of

GIVEN = ("", "1", "0110")


def lowest_words(length):
    """Some words of this length, the first ones, ascending."""
    return [format(value, "b").zfill(length) for value in range(200)]


class LeastTest(unittest.TestCase):
    def check(self, told, most, steps, given, words):
        """told_words, and least_program of these words."""
        language = made(told)
        by_word = tellers(told, most, steps, given)
        named = {"language": language, "most": most, "steps": steps, "given": given}
        check_calls(self, told_words, named, tuple((word, programs[0]) for word, programs in by_word.items()),
                    by_name=["given"])
        for word in words:
            named = {"language": language, "word": word, "most": most, "steps": steps, "given": given}
            check_calls(self, least_program, named, by_word.get(word, [None])[0], by_name=["given"])

    def check_sums(self, told, most, steps, words):
        """chance_to_write of these words, share_of_ended, and both together."""
        language = made(told)
        by_word = tellers(told, most, steps, "")
        for word in words:
            check_calls(self, chance_to_write, {"language": language, "word": word, "most": most, "steps": steps},
                        weight_of(by_word.get(word, [])))
        total = weight_of([program for programs in by_word.values() for program in programs])
        check_calls(self, share_of_ended, {"language": language, "most": most, "steps": steps}, total)
        self.assertLessEqual(total, 1)

    def check_untold(self, told, many, most, steps):
        by_word = tellers(told, most - 1, steps, "")
        expected = next((word for word in all_words(many) if word not in by_word), None)
        check_calls(self, untold, {"language": made(told), "many": many, "most": most, "steps": steps}, expected)
        if most <= many:
            self.assertIsNotNone(expected)
        return expected

    def test_short_programs(self):
        for told in SOME:
            for given in GIVEN:
                for steps in (0, 1, 2, 4, 30):
                    for most in (0, 2, 6):
                        self.check(told, most, steps, given, list(tellers(told, 6, 30, given))[:5] + words_up_to(2))

    def test_longer_programs(self):
        for told in SOME:
            for given in GIVEN:
                words = list(tellers(told, 10, 40, given))[::3]
                self.check(told, 10, 40, given, words + all_words(4)[:8])

    def test_given_by_default_is_the_empty_word(self):
        for told in ("stacks", ("pair", "reels", "stacks")):
            language = made(told)
            self.assertEqual(told_words(language, 9, 9), told_words(language, 9, 9, given=""))
            for word in words_up_to(2):
                self.assertEqual(least_program(language, word, 9, 9), least_told(told, word, 9, 9))
        with self.assertRaises(TypeError):
            least_program(Stacks(), "1", 6, 9, "1")
        with self.assertRaises(TypeError):
            told_words(Stacks(), 6, 9, "1")

    def test_sums(self):
        for told in SOME:
            for steps in (0, 1, 2, 5, 30):
                for most in (0, 1, 3, 6, 9):
                    self.check_sums(told, most, steps, words_up_to(2))

    def test_chances_of_all_words_sum_up_to_share_of_ended(self):
        for told in SOME:
            language = made(told)
            for most, steps in ((0, 9), (5, 3), (9, 20)):
                total = Share(0, 1)
                for word, _ in told_words(language, most, steps):
                    total = total + chance_to_write(language, word, most, steps)
                self.assertEqual(total, share_of_ended(language, most, steps))

    def test_they_never_fall(self):
        for told in SOME:
            language = made(told)
            for word in words_up_to(2):
                by_most = [as_fraction(self, chance_to_write(language, word, most, 9)) for most in range(8)]
                by_steps = [as_fraction(self, chance_to_write(language, word, 6, steps)) for steps in range(8)]
                self.assertEqual((by_most, by_steps), (sorted(by_most), sorted(by_steps)))
            by_most = [as_fraction(self, share_of_ended(language, most, 9)) for most in range(8)]
            by_steps = [as_fraction(self, share_of_ended(language, 6, steps)) for steps in range(8)]
            self.assertEqual((by_most, by_steps), (sorted(by_most), sorted(by_steps)))

    def test_untold(self):
        found = 0
        for told in SOME:
            for many in range(4):
                for most in (0, 1, 2, 3, 4, 7, 10):
                    for steps in (0, 2, 12):
                        found += self.check_untold(told, many, most, steps) is None
        self.assertGreater(found, 10)

    def test_untold_words_of_many_bits(self):
        writes = tuple(((0, 1),) * 39 + ((bit, 1),) for bit in (0, 1))
        table = Table([("0", writes[0], 1), ("10", writes[1], 1), ("110", ((0, 1),) * 38, 1)])
        self.assertEqual(untold(table, 40, 9, 41), "0" * 38 + "10")
        self.assertEqual(untold(table, 40, 2, 41), "0" * 39 + "1")
        self.assertEqual(untold(table, 40, 9, 40), "0" * 40)
        self.assertEqual(untold(table, 38, 4, 39), "0" * 37 + "1")
        self.assertEqual(untold(table, 38, 3, 39), "0" * 38)

    def test_untold_and_the_sums_are_with_the_empty_word_given(self):
        for sign, other in ("01", "10"):
            both = Both(Table([("", [(int(sign), 1)], 1)]), Stacks())
            self.assertEqual(untold(both, 1, 8, 9), other)
            self.assertEqual(chance_to_write(both, other, 8, 9), Share(0, 1))
            self.assertEqual(least_program(both, other, 8, 9, given=other), "1" + read_stacks("!."))
        self.assertEqual(share_of_ended(Stacks(), 9, 3), share_of_ended(Stacks(), 9, 99))

    def test_programs_that_end_at_the_last_step_and_one_step_behind_it(self):
        table = Table([("0", [(1, 2), (0, 3)], 4), ("10", [(1, 1), (0, 1)], 1), ("11", [], 5)])
        for steps, first, ended in ((2, None, 0), (3, "10", 1), (4, "10", 1), (5, "10", 2), (8, "10", 2), (9, "0", 4)):
            self.assertEqual(least_program(table, "10", 2, steps), first)
            self.assertEqual(share_of_ended(table, 2, steps), Share(ended, 4))
            self.assertEqual(chance_to_write(table, "10", 2, steps), Share({None: 0, "10": 1, "0": 3}[first], 4))
        self.assertEqual(told_words(table, 2, 9), (("", "11"), ("10", "0")))
        self.assertEqual(told_words(table, 2, 8), (("", "11"), ("10", "10")))
        self.assertEqual(told_words(table, 1, 9), (("10", "0"),))
        self.assertEqual((untold(table, 2, 2, 8), untold(table, 0, 3, 4), untold(table, 0, 3, 5)), ("00", "", None))

    def test_told_by_hand(self):
        self.assertEqual(least_program(Reels(), "", 3, 1), "000")
        self.assertIsNone(least_program(Reels(), "", 2, 1))
        self.assertIsNone(least_program(Reels(), "", 3, 0))
        self.assertEqual(least_program(language=Reels(), word="0101", most=12, steps=50), read_reels("01=."))
        self.assertEqual(least_program(Reels(), "1111", 12, 50), read_reels("11=."))
        self.assertIsNone(least_program(Reels(), "0101", 12, 4))
        self.assertEqual(least_program(Stacks(), "01", 12, 9, given="01"), read_stacks("!!."))
        self.assertEqual(least_program(Stacks(), "01", 15, 9, given=""), read_stacks("0!1!."))
        self.assertEqual(told_words(Reels(), 6, 3), (("", "000"), ("0", "001000"), ("1", "010000")))
        self.assertEqual(told_words(language=Reels(), most=6, steps=1), (("", "000"),))
        self.assertEqual(chance_to_write(language=Reels(), word="", most=6, steps=3), Share(11, 64))
        self.assertEqual(share_of_ended(language=Reels(), most=6, steps=3), Share(13, 64))
        self.assertEqual(untold(language=Reels(), many=1, most=7, steps=2), None)
        self.assertEqual(untold(Reels(), 1, 6, 2), "0")
        self.assertEqual(untold(Reels(), 0, 3, 1), "")
        self.assertIsNone(untold(Reels(), 0, 4, 1))

    def test_words_that_no_program_tells(self):
        for told in SOME:
            language = made(told)
            for word in ("0" * 40, "01" * 20):
                self.assertIsNone(least_program(language, word, 6, 60))
                share = chance_to_write(language, word, 6, 60)
                self.assertEqual((share.over, share.under), (0, 1))
        # What such a word begins with, or what begins with such a word, is told.
        table = Table([("0", [(1, 1), (1, 1)], 1), ("10", [(1, 1), (1, 1), (1, 1), (1, 1)], 1), ("11", [(1, 1)], None)])
        for word in ("", "1", "111", "11111", "0", "110", "1110"):
            self.assertIsNone(least_program(table, word, 2, 100))
        self.assertEqual([word for word, _ in told_words(table, 2, 100)], ["11", "1111"])

    def test_languages_without_programs_and_with_the_empty_one(self):
        for told in (NONE, ("both", NONE, NONE), ("pair", NONE, "reels")):
            language = made(told)
            self.assertEqual((told_words(language, 12, 9), untold(language, 2, 12, 9)), ((), "00"))
            self.assertEqual(share_of_ended(language, 12, 9), Share(0, 1))
        language = made(EMPTY)
        self.assertEqual(told_words(language, 0, 4), (("01", ""),))
        self.assertEqual((told_words(language, 0, 3), untold(language, 2, 0, 9)), ((), "00"))
        self.assertEqual(share_of_ended(language, 0, 4), Share(1, 1))
        self.assertEqual((least_program(language, "01", 0, 4), least_program(language, "01", 0, 3)), ("", None))

    def test_at_the_sizes(self):
        for told in at_the_sizes(random.Random(42)):
            language = made(told)
            by_word = tellers(told, 12, 10000, "")
            self.assertEqual(told_words(language, 12, 10000), tuple((word, by_word[word][0]) for word in by_word))
            for word in list(by_word)[-1:] + ["0" * 40, "1" * 40]:
                self.assertEqual(least_program(language, word, 12, 10000), by_word.get(word, [None])[0])
                self.assertEqual(as_fraction(self, chance_to_write(language, word, 12, 10000)),
                                 weight_of(by_word.get(word, [])))
            self.assertEqual(as_fraction(self, share_of_ended(language, 12, 10000)),
                             weight_of([program for programs in by_word.values() for program in programs]))
            found = untold(language, 40, 12, 10000)
            self.assertEqual(found, next(word for word in lowest_words(40) if word not in by_word))

    def test_long_given_words_and_deep_languages(self):
        stacks = ("pair", EMPTY, ("both", ("both", QUICK, "stacks"), ("pair", SLOW, "stacks")))
        for given in ("01" * 20, "1" * 40):
            words = list(tellers(stacks, 12, 500, given))
            self.check(stacks, 12, 500, given, words[::9] + ["1"])
        table = long_table(random.Random(43), 40, (199, 200))
        program = programs_up_to(table, 6)[7]
        word = next(word for word, programs in tellers(table, 6, 10000, "").items() if len(word) == 40)
        self.assertEqual(least_program(made(table), word, 6, 10000), least_told(table, word, 6, 10000))
        self.assertIsNone(least_program(made(table), word, 6, 40 * 199))
        self.assertEqual(len(program), 6)

    def test_kinds_of_what_is_returned(self):
        self.assertIs(type(told_words(Reels(), 6, 9)), tuple)
        self.assertTrue(all(type(pair) is tuple for pair in told_words(Reels(), 6, 9)))
        self.assertEqual(as_fraction(self, share_of_ended(Reels(), 0, 0)), Fraction(0))
        self.assertEqual(as_fraction(self, chance_to_write(Reels(), "", 0, 0)), Fraction(0))


if __name__ == "__main__":
    unittest.main()
