"""Words none of which begins another."""

from keptbudgets.errors import InvalidWords, TooFull
from keptbudgets.kinds import are_numbers, is_sequence
from keptbudgets.shares import sum_of_halves


def is_word(value):
    """Whether a value is a string of the characters 0 and 1."""
    return isinstance(value, str) and value.strip("01") == ""


def first_clash(words):
    """The first places (i, k), by (k, i), of two words one of which begins the other, or None."""
    _check_words(words)
    for k, later in enumerate(words):
        for i in range(k):
            if later.startswith(words[i]) or words[i].startswith(later):
                return (i, k)
    return None


def share_of(words):
    """The sum of 1 / 2 ** length over the words."""
    _check_words(words)
    return sum_of_halves([len(word) for word in words])


def code_of(lengths):
    """For each length a word of it, none beginning another, each the first that is left."""
    if not are_numbers(lengths) or not _is_room_for(sorted(lengths)):
        raise TooFull(lengths)
    words = [""] * len(lengths)
    value = 0
    before = 0
    for length, place in sorted([(length, place) for place, length in enumerate(lengths)]):
        value = value << (length - before)
        words[place] = word_of(value, length)
        # All words of lower values are begun by earlier ones: the next value is the first left.
        value = value + 1
        before = length
    return tuple(words)


def split(words, text):
    """The place of the word that begins the text, and the rest of the text; or None."""
    for place, word in enumerate(words):
        if text.startswith(word):
            return (place, text[len(word):])
    return None


def word_of(value, length):
    """The word of this length that has this value."""
    # The 1 ahead keeps the zeros at the beginning, and gives the empty word for length 0.
    marked = f"{(1 << length) + value:b}"
    return marked[1:]


def value_of(word):
    """The number that a word writes in base two."""
    return int("0" + word, 2)


def words_of(length):
    """All words of this length, ascending."""
    return tuple([word_of(value, length) for value in range(1 << length)])


def _check_words(words):
    if not is_sequence(words) or not all([is_word(word) for word in words]):
        raise InvalidWords(words)


def _is_room_for(ascending):
    """Whether the sum of 1 / 2 ** length is at most 1, for lengths in ascending order."""
    free = 1
    depth = 0
    for length in ascending:
        # A length may have hundreds of digits, but its power is not needed where none is free.
        if free == 0:
            return False
        free = (free << (length - depth)) - 1
        depth = length
    return True
