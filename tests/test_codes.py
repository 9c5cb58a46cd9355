import itertools
import unittest
from fractions import Fraction

from keptbudgets.codes import code_of, first_clash, is_word, share_of, split
from keptbudgets.errors import InvalidWords, TooFull
from keptbudgets.shares import Share
from helpers import any_values, as_lists, is_bits, is_int, parts_replaced, raised, seen_as

SHORT = [""] + ["".join(row) for many in (1, 2, 3) for row in itertools.product("01", repeat=many)]


def are_words(value):
    return isinstance(value, (tuple, list)) and all(is_bits(part) for part in value)


def clash_by_definition(words):
    pairs = [(k, i) for k in range(len(words)) for i in range(k)
             if words[k][:len(words[i])] == words[i] or words[i][:len(words[k])] == words[k]]
    return min(pairs)[::-1] if pairs else None


def code_by_definition(lengths):
    words = {}
    for length, place in sorted((length, place) for place, length in enumerate(lengths)):
        words[place] = next(
            word for word in ("".join(row) for row in itertools.product("01", repeat=length))
            if not any(word.startswith(other) for other in words.values()))
    return tuple(words[place] for place in range(len(lengths)))


def sum_of_halves(lengths):
    return sum((Fraction(1, 2 ** length) for length in lengths), Fraction(0))


class IsWordTest(unittest.TestCase):
    def test_any_value(self):
        for value in any_values() + SHORT:
            self.assertIs(is_word(value), is_bits(value), repr(value)[:50])
        self.assertIs(is_word(value="0110"), True)
        self.assertIs(is_word(""), True)
        self.assertIs(is_word("01" * 200), True)
        for value in ("2", "012", "0x1", " 01", "01 ", "0\n1", "\u0661", "-1", "0 1", 1, 0, b"01", ["0", "1"], {}):
            self.assertIs(is_word(value), False)


class WrongWordsTest(unittest.TestCase):
    def check_refusals(self, call):
        tried = any_values()
        for words in (("0", "10", "11"), ["", "1"], ("01",)):
            tried.extend(parts_replaced(words, any_values()))
        for value in tried:
            if not are_words(value):
                self.assertIs(raised(self, InvalidWords, call, value).words, value)
                self.assertIs(raised(self, InvalidWords, call, words=value).words, value)

    def test_first_clash(self):
        self.check_refusals(first_clash)

    def test_share_of(self):
        self.check_refusals(share_of)


class FirstClashTest(unittest.TestCase):
    def test_all_rows_of_few_words(self):
        for many in range(4):
            for words in itertools.product(SHORT, repeat=many):
                clash = first_clash(words)
                self.assertEqual(clash, clash_by_definition(words))
                self.assertEqual(first_clash(list(words)), clash)
                if clash is None:
                    self.assertFalse(Share(1, 1).is_below(share_of(words)))
                else:
                    self.assertIs(type(clash), tuple)

    def test_the_first_by_the_later_place_then_the_earlier(self):
        self.assertEqual(first_clash(("00", "1", "10", "0")), (1, 2))
        self.assertEqual(first_clash(("00", "01", "1", "0", "1")), (0, 3))
        self.assertEqual(first_clash(("1", "00", "01", "0")), (1, 3))
        self.assertEqual(first_clash(("01", "01")), (0, 1))
        self.assertEqual(first_clash(("", "")), (0, 1))
        self.assertEqual(first_clash(("10", "")), (0, 1))
        self.assertIsNone(first_clash(()))
        self.assertIsNone(first_clash([""]))
        self.assertIsNone(first_clash(words=("0", "10", "110")))

    def test_at_the_sizes(self):
        words = [format(k, "060b") for k in range(60)]
        self.assertIsNone(first_clash(words))
        self.assertEqual(first_clash(words[:59] + [words[30]]), (30, 59))
        self.assertEqual(first_clash(words[:59] + [words[58][:59]]), (58, 59))

    def test_words_stay_as_they_were(self):
        words = ["10", "0", "1"]
        self.assertEqual(first_clash(words), (0, 2))
        share_of(words)
        self.assertEqual(words, ["10", "0", "1"])


class ShareOfTest(unittest.TestCase):
    def test_sums(self):
        for words in itertools.product(SHORT[:9], repeat=3):
            share = share_of(words)
            total = sum_of_halves(map(len, words))
            self.assertIs(type(share), Share)
            self.assertEqual((share.over, share.under), (total.numerator, total.denominator))
            self.assertEqual(share_of(list(words)), share)
        self.assertEqual(share_of(()), Share(0, 1))
        self.assertEqual(share_of([]), Share(0, 1))
        self.assertEqual(share_of(("",)), Share(1, 1))
        self.assertEqual(share_of(words=("0", "0", "")), Share(2, 1))

    def test_at_the_sizes(self):
        self.assertEqual(share_of(["1" * 60] * 60), Share(60, 2 ** 60))
        self.assertEqual(share_of(["1" * many + "0" for many in range(59)] + ["1" * 59]), Share(1, 1))


class CodeOfTest(unittest.TestCase):
    def check(self, lengths):
        code = code_of(lengths)
        self.assertIs(type(code), tuple)
        self.assertEqual([len(word) for word in code], list(lengths))
        self.assertTrue(all(is_bits(word) for word in code))
        self.assertIsNone(first_clash(code))
        return code

    def test_all_rows_of_few_lengths(self):
        for many in range(6):
            for lengths in itertools.product(range(5), repeat=many):
                if sum_of_halves(lengths) <= 1:
                    self.assertEqual(self.check(lengths), code_by_definition(lengths))
                    self.assertEqual(code_of(list(lengths)), code_of(lengths))
                else:
                    self.assertIs(raised(self, TooFull, code_of, lengths).lengths, lengths)

    def test_words_are_given_by_length_then_place(self):
        self.assertEqual(code_of((2, 1, 3, 3)), ("10", "0", "110", "111"))
        self.assertEqual(code_of((3, 3, 2, 2)), ("100", "101", "00", "01"))
        self.assertEqual(code_of((1, 4)), ("0", "1000"))
        self.assertEqual(code_of(()), ())
        self.assertEqual(code_of([]), ())
        self.assertEqual(code_of((0,)), ("",))
        self.assertEqual(code_of(lengths=[2]), ("00",))

    def test_sums_of_just_1_and_just_above(self):
        for many in range(1, 7):
            self.check([many] * 2 ** many)
            raised(self, TooFull, code_of, [many] * 2 ** many + [40])
        exact = list(range(1, 41)) + [40]
        self.assertEqual(self.check(exact)[-2:], ("1" * 39 + "0", "1" * 40))
        self.assertEqual(self.check(exact[::-1])[:2], ("1" * 39 + "0", "1" * 40))
        raised(self, TooFull, code_of, exact + [40])
        raised(self, TooFull, code_of, [40] + exact)
        raised(self, TooFull, code_of, (0, 0))
        raised(self, TooFull, code_of, (0, 40))

    def test_at_the_sizes(self):
        self.assertEqual(self.check([40] * 60), tuple(format(k, "040b") for k in range(60)))
        lengths = [1] + [7] * 58 + [40]
        code = self.check(lengths)
        self.assertEqual(code[1:59], tuple(format(64 + k, "07b") for k in range(58)))
        self.assertEqual(code[59], format((64 + 58) << 33, "040b"))

    def test_lengths_of_hundreds_of_digits_that_are_too_full(self):
        vast = 10 ** 399
        for lengths in ((0, vast), (vast, 0), [1, 1, vast], (vast, 1, 2, 2), (0, vast, vast), (vast, 1, -1),
                        (True, vast)):
            self.assertIs(raised(self, TooFull, code_of, lengths).lengths, lengths)
        lengths = [2, 2, vast, 2, 2] + [vast] * 195
        self.assertIs(raised(self, TooFull, code_of, lengths).lengths, lengths)

    def test_wrong_lengths(self):
        tried = any_values()
        for lengths in ((1, 2, 3, 3), [2, 2], (0,)):
            tried.extend(parts_replaced(lengths, any_values()))
        for value in tried:
            fine = isinstance(value, (tuple, list)) and all(is_int(part) and part >= 0 for part in value)
            if fine and max(value, default=0) <= 400 and sum_of_halves(value) <= 1:
                self.check(value)
            elif not fine or max(value) <= 400:
                self.assertIs(raised(self, TooFull, code_of, value).lengths, value)
                self.assertIs(raised(self, TooFull, code_of, lengths=value).lengths, value)

    def test_lengths_stay_as_they_were(self):
        lengths = [3, 1, 2]
        code = code_of(lengths)
        self.assertEqual(lengths, [3, 1, 2])
        lengths[0] = 7
        self.assertEqual(code, ("110", "0", "10"))


class SplitTest(unittest.TestCase):
    def test_all_short_texts(self):
        for words in ((), ("",), ("0",), ("0", "10"), ("10", "0"), ("111", "0", "10", "110"), ("01", "00")):
            for text in SHORT:
                for rest in SHORT:
                    places = [place for place, word in enumerate(words) if (text + rest).startswith(word)]
                    expected = (places[0], (text + rest)[len(words[places[0]]):]) if places else None
                    self.assertEqual(split(words, text + rest), expected)
                    self.assertEqual(split(as_lists(words), text + rest), expected)

    def test_the_place_and_the_rest(self):
        self.assertEqual(split(("10", "0"), "0"), (1, ""))
        self.assertEqual(split(("10", "0"), "10011"), (0, "011"))
        self.assertIs(type(split(["0"], "01")), tuple)
        self.assertIsNone(split(("10", "0"), "1"))
        self.assertIsNone(split(("10", "0"), ""))
        self.assertEqual(split(("",), ""), (0, ""))
        self.assertEqual(split(words=["1"], text="10"), (0, "0"))

    def test_words_of_a_code_one_behind_the_other(self):
        code = code_of([5, 1, 3, 4, 60 - 1, 3])
        order = [4, 0, 3, 3, 1, 5, 2, 4]
        text = "".join(code[place] for place in order)
        found = []
        while text:
            place, text = split(code, text)
            found.append(place)
        self.assertEqual(found, order)

    def test_words_stay_as_they_were(self):
        words = ["1", "00"]
        before = seen_as(words)
        split(words, "001")
        self.assertEqual(seen_as(words), before)


if __name__ == "__main__":
    unittest.main()
