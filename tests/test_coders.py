import random
import unittest
from fractions import Fraction

from keptbudgets.codes import first_clash
from keptbudgets.coders import SourceCoder
from keptbudgets.errors import NotWritten
from keptbudgets.losses import judge_measure, least_loss
from keptbudgets.shares import Share
from keptbudgets.sources import Source
from helpers import all_words, as_fraction, as_lists, check_calls, raised, seen_as, words_up_to
from packed_told import RESTS, check_packed
from sources_told import (EVEN, LARGEST, MIXED, ONES, ROWS, SETS, ZEROS, chance_told, drawn_sources, greatest_told,
                          loss_told, made)


class SourceCoderTest(unittest.TestCase):
    def check(self, rows_of_all, many, words=None, rests=RESTS):
        """The coder's chances, packed words and the way back, for all words or just for these."""
        coder = SourceCoder(made(rows_of_all), many)
        loss = loss_told(rows_of_all, many)
        measure = greatest_told(rows_of_all, [loss] * len(rows_of_all), many)
        self.assertEqual(sum(measure), 1)
        packed_words = []
        for word in all_words(many) if words is None else words:
            place = int("0" + word, 2)
            self.assertEqual(as_fraction(self, coder.chance(word)), measure[place])
            if measure[place] == 0:
                self.assertIs(raised(self, NotWritten, coder.pack, word).row, word)
                self.assertIs(raised(self, NotWritten, coder.pack, word=word).row, word)
                continue
            packed = coder.pack(word)
            check_packed(self, packed, sum(measure[:place]), measure[place])
            for rows in rows_of_all:
                self.assertLess(2 ** len(packed) * chance_told(rows, word) * loss, 4)
            for rest in rests:
                found = coder.unpack(packed + rest)
                self.assertEqual((found, type(found)), ((word, rest), tuple))
            packed_words.append(packed)
        self.assertIsNone(first_clash(packed_words[:60]))
        return coder

    def check_beginnings(self, coder, rows_of_all, many):
        measure = greatest_told(rows_of_all, [loss_told(rows_of_all, many)] * len(rows_of_all), many)
        for word in words_up_to(many):
            behind = [share for other, share in zip(all_words(many), measure) if other.startswith(word)]
            check_calls(self, coder.chance, {"word": word}, sum(behind, Fraction(0)))

    def test_all_short_words(self):
        for rows_of_all in SETS:
            for many in range(5):
                self.check_beginnings(self.check(rows_of_all, many), rows_of_all, many)

    def test_words_of_no_bits(self):
        coder = SourceCoder([Source(ROWS)], 0)
        self.assertEqual((coder.chance(""), coder.pack("")), (Share(1, 1), ""))
        for rest in RESTS:
            self.assertEqual(coder.unpack(rest), ("", rest))

    def test_told_by_hand(self):
        coder = SourceCoder(sources=(Source(ZEROS), Source(EVEN)), many=2)
        self.assertEqual([coder.chance(word) for word in ("00", "01", "10", "11", "0", "1", "")],
                         [Share(4, 7), Share(1, 7), Share(1, 7), Share(1, 7), Share(5, 7), Share(2, 7), Share(1, 1)])
        self.assertEqual([coder.pack(word) for word in ("00", "01", "10", "11")], ["0", "1010", "1100", "111"])
        self.assertEqual(coder.unpack(text="1010" + "11"), ("01", "11"))
        self.assertEqual(coder.pack(word="11"), "111")

    def test_words_without_measure(self):
        coder = SourceCoder([Source(ONES), Source(ZEROS)], 3)
        self.assertEqual(raised(self, NotWritten, coder.pack, "010").row, "010")
        self.assertEqual([coder.chance(word) for word in ("010", "01", "0", "111")],
                         [Share(0, 1), Share(0, 1), Share(1, 2), Share(1, 2)])
        self.assertEqual((coder.pack("000"), coder.pack("111")), ("0", "1"))
        self.assertEqual((coder.unpack("0" * 7), coder.unpack("1" * 7)), (("000", "0" * 6), ("111", "1" * 6)))
        alone = SourceCoder([Source(((0, 0, 1, 1), (1, 0, 0, 0)))], 4)
        self.assertEqual((alone.pack("1010"), alone.unpack("0110")), ("", ("1010", "0110")))
        for word in all_words(4):
            if word != "1010":
                self.assertIs(raised(self, NotWritten, alone.pack, word).row, word)

    def test_drawn_sources(self):
        chance = random.Random(41)
        for k in range(60):
            rows_of_all = drawn_sources(chance, (1, 3, 1000)[k % 3])
            self.check(rows_of_all, chance.randint(1, 4), rests=RESTS[:4])

    def test_at_the_sizes(self):
        for rows_of_all in (LARGEST, (LARGEST[0], ((1, 0, 1000, 1), (1000, 1, 1, 0))), (ROWS, MIXED, ZEROS, LARGEST[3])):
            self.check(rows_of_all, 8, words=all_words(8)[::5], rests=("", "1" * 40))
            self.assertIs(SourceCoder(made(rows_of_all), 8).chance("") == Share(1, 1), True)
        rare = (((1, 0, 999, 0),),)
        coder = self.check(rare, 8, words=["0" * 8, "1" * 8, "00000001"])
        self.assertGreater(len(coder.pack("0" * 8)), 70)

    def test_its_measure_is_one_for_all_sources_with_the_least_loss(self):
        for rows_of_all in SETS:
            sources = made(rows_of_all)
            coder = SourceCoder(sources, 3)
            loss = least_loss(sources, 3)
            measure = tuple(coder.chance(word) for word in all_words(3))
            self.assertIs(judge_measure(sources, [loss] * len(sources), 3, measure), True)
            above = [loss + Share(1, 10 ** 9)] * len(sources)
            self.assertIs(judge_measure(sources, above, 3, measure), False)

    def test_two_by_turns(self):
        one, other = SourceCoder([Source(ROWS)], 3), SourceCoder([Source(ROWS), Source(EVEN)], 3)
        packed = {}
        for word in all_words(3):
            for coder in (one, other):
                if coder.chance(word) != Share(0, 1):
                    packed[coder, word] = coder.pack(word)
                else:
                    raised(self, NotWritten, coder.pack, word)
        self.assertGreater(len(packed), 10)
        for (coder, word), text in packed.items():
            self.assertEqual(coder.unpack(text + "01"), (word, "01"))
            self.assertEqual(coder.pack(word), text)

    def test_words_packed_one_behind_the_other(self):
        coder = SourceCoder(made((ROWS, MIXED)), 4)
        words = [word for word in all_words(4) if coder.chance(word).over > 0]
        text = "".join(coder.pack(word) for word in words)
        for word in words:
            found, text = coder.unpack(text)
            self.assertEqual(found, word)
        self.assertEqual(text, "")

    def test_what_is_passed_stays_and_later_changes_have_no_effect(self):
        rows = as_lists(ROWS)
        sources = [Source(rows), Source(EVEN)]
        before = seen_as(sources)
        coder = SourceCoder(sources, 3)
        told = [(coder.chance(word), coder.pack(word)) for word in all_words(3) if coder.chance(word).over > 0]
        self.assertEqual(seen_as(sources), before)
        sources.pop()
        sources[0] = Source(ONES)
        rows[0][0] = 100
        again = [(coder.chance(word), coder.pack(word)) for word in all_words(3) if coder.chance(word).over > 0]
        self.assertEqual(again, told)


if __name__ == "__main__":
    unittest.main()
