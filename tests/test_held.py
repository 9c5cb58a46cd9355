import random
import unittest

from keptbudgets.errors import NoProgram
from keptbudgets.held import run_from, stand_of
from keptbudgets.reels import Reels
from keptbudgets.stacks import Stacks
from keptbudgets.texts import read_reels, read_stacks
from helpers import as_lists, check_ended, check_stand, check_wrong_many, seen_as
from languages import first_steps, made
from models import REELS, STACKS, some_texts, word_of

SIGNS = {"reels": REELS, "stacks": STACKS}
TEXTS = {"reels": (".", "*", "0.", "01=~.", "=.", "~1=*", "0[~*.", "++[0[1+.=.1.", "[[[+*.*.", "1[=.+[~0[1..=~.", "1==~*",
                   "+[+[0.1.~.", "[.[.[.."),
         "stacks": (".", "!.", "!!!.", "1[0!1..", "11[!..", "><!<!>!.", "?[>?!.<!.", "1[?>1[!.1.!.",
                    "01>>?!<!.", "!![!1.!.", "[[...")}


class HeldTest(unittest.TestCase):
    def check_kinds(self, value):
        """Only integers, strings, bools, None, and tuples of these."""
        self.assertIn(type(value), (int, str, bool, type(None), tuple))
        if type(value) is tuple:
            for part in value:
                self.check_kinds(part)

    def check_at(self, told, program, given, done, expected):
        """A stand behind so many steps; the run that it was taken of and one made of it go on by turns."""
        language = made(told)
        run = language.begin(program, given)
        self.assertEqual(run.go(done), min(done, len(expected)))
        stand = stand_of(run)
        self.assertIs(type(stand), tuple)
        self.check_kinds(stand)
        self.assertEqual(stand_of(run=run), stand)
        check_stand(self, run, expected[:done])
        kept = seen_as(stand)
        other, later = run_from(language, stand), run_from(language=made(told), stand=as_lists(stand))
        for place in range(done, min(len(expected), done + 40)):
            for one in (run, other):
                check_stand(self, one, expected[:place])
                self.assertEqual(one.step(), expected[place])
            self.assertEqual(stand_of(other), stand_of(run))
        check_stand(self, later, expected[:done])
        self.assertEqual(later.go(len(expected) - done), len(expected) - done)
        check_stand(self, later, expected)
        self.assertEqual(seen_as(stand), kept)
        again = run_from(language, stand)
        self.assertEqual(stand_of(again), stand)
        check_stand(self, again, expected[:done])
        if expected[-1:] == ["end"]:
            self.assertEqual(again.go(10 ** 399), max(0, len(expected) - done))
            check_ended(self, again, expected)

    def check(self, told, program, given, many, stride=1):
        expected = first_steps(told, program, given, many)
        for done in range(0, len(expected) + 1, stride):
            self.check_at(told, program, given, done, expected)

    def test_runs_at_their_beginning_on_the_way_and_ended(self):
        for told, texts in TEXTS.items():
            for text in texts:
                for given in ("", "10", "1101"):
                    self.check(told, word_of(text, SIGNS[told]), given, 60)

    def test_drawn_programs(self):
        chance = random.Random(53)
        for told, signs in SIGNS.items():
            for tokens in (4, 9, 16, 24):
                for text in some_texts(chance, tokens, 25, signs):
                    given = "".join(chance.choice("01") for _ in range(chance.choice((0, 3, 40))))
                    self.check(told, word_of(text, signs), given, 90, stride=chance.randint(3, 20))

    def test_all_short_programs(self):
        for told in SIGNS:
            for length in (3, 6, 9):
                for program in made(told).programs(length):
                    self.check(told, program, "01", 12, stride=3)

    def test_long_runs(self):
        for told, text in (("reels", "0[~*."), ("reels", "+++[+[0+1.+.."), ("reels", "+[+[+[0.*.."),
                           ("stacks", "1[1[!0!1...")):
            program = word_of(text, SIGNS[told])
            expected = first_steps(told, program, "", 10000)
            for done in (0, 1, len(expected) // 2, len(expected) - 1):
                language = made(told)
                run = language.begin(program, "")
                run.go(done)
                other = run_from(language, stand_of(run))
                self.assertEqual(other.go(10000 - done), len(expected) - done)
                check_stand(self, other, expected)
                check_stand(self, run, expected[:done])

    def test_in_a_copy(self):
        run = Reels().begin(read_reels("011=~."), "")
        run.go(4)
        stand = stand_of(run)
        self.assertEqual((run.written, run.step(), run.step(), run.step()), ("0110", 1, 1, 1))
        other = run_from(Reels(), stand)
        self.assertEqual((other.written, other.step(), other.step()), ("0110", 1, 1))
        self.assertEqual((run.written, other.written), ("0110111", "011011"))
        self.assertEqual((run.go(99), other.go(99)), (6, 7))
        self.assertEqual((run.written, other.written), ("011011100100", "011011100100"))

    def test_several_runs_of_one_stand(self):
        for language, program in ((Reels(), read_reels("+[[0+.1.*")), (Stacks(), read_stacks("1[!1?>1.."))):
            run = language.begin(program, "0110")
            run.go(6)
            stand = stand_of(run)
            one, other = run_from(language, stand), run_from(language, stand)
            one.go(20)
            self.assertEqual(stand_of(other), stand)
            other.go(20)
            run.go(20)
            self.assertEqual(stand_of(one), stand_of(other))
            self.assertEqual(stand_of(one), stand_of(run))
            self.assertNotEqual(stand_of(one), stand)

    def test_it_tells_what_differs(self):
        stands = set()
        for text in ("0*", "1*", "00*", "+0*", "[0.*"):
            run = Reels().begin(read_reels(text), "")
            for _ in range(5):
                stands.add(stand_of(run))
                run.step()
        self.assertEqual(len(stands), 25)
        stands = {stand_of(Stacks().begin(read_stacks(text), given)) for text in ("!.", ">.") for given in ("", "0", "1")}
        self.assertEqual(len(stands), 6)

    def test_wrong_many(self):
        for language, program in ((Reels(), read_reels("01.")), (Stacks(), read_stacks("0!1!."))):
            told = "reels" if isinstance(language, Reels) else "stacks"
            expected = first_steps(told, program, "", 20)
            for done in (0, 2, len(expected)):
                run = language.begin(program, "")
                run.go(done)
                other = run_from(language, stand_of(run))
                check_wrong_many(self, other, expected[:done])

    def test_the_language_begins_runs_as_before(self):
        language = Reels()
        run_from(language, stand_of(language.begin(read_reels("0*"), ""))).go(5)
        check_stand(self, language.begin(read_reels("0*"), ""), [])
        with self.assertRaises(NoProgram):
            language.begin("0", "")


if __name__ == "__main__":
    unittest.main()
