"""Programs that are one block of tokens of three bits, as Reels and Stacks have them.

The functions take the language: its SIGNS are those of the tokens from 000 to 111, its
CLOSERS the signs that close a block.
"""

from keptbudgets.codes import is_word

TOKENS = ("000", "001", "010", "011", "100", "101", "110", "111")
TOKEN_BITS = 3


def depth_behind(language, sign, depth):
    """How many blocks are open behind this sign, if depth are open ahead of it."""
    if sign == "[":
        return depth + 1
    if sign in language.CLOSERS:
        return depth - 1
    return depth


def longest_beginning(language, text):
    """The length of the longest beginning of a text that begins the text of some program,
    and how many blocks are open behind it."""
    depth = 1
    for at, sign in enumerate(text):
        if depth == 0 or sign not in language.SIGNS:
            return (at, depth)
        depth = depth_behind(language, sign, depth)
    return (len(text), depth)


def is_block(language, value):
    """Whether any value is a word that is one block with nothing behind it."""
    if not is_word(value) or len(value) % TOKEN_BITS != 0:
        return False
    text = signs_of(language, value)
    return longest_beginning(language, text) == (len(text), 0)


def signs_of(language, program):
    """The signs of the tokens of a program."""
    places = range(0, len(program), TOKEN_BITS)
    tokens = [program[at:at + TOKEN_BITS] for at in places]
    return "".join([language.SIGNS[TOKENS.index(token)] for token in tokens])


def tokens_of(language, text):
    """The word of the tokens that have these signs."""
    return "".join([TOKENS[language.SIGNS.index(sign)] for sign in text])


def blocks_of(language, length):
    """All words of this length that are one block, ascending."""
    if length % TOKEN_BITS != 0:
        return ()
    begun = [("", 1)]
    for left in reversed(range(length // TOKEN_BITS)):
        longer = []
        for word, depth in begun:
            longer.extend(_with_one_more(language, word, depth))
        # Each token left closes one block at most, and the last one has to close the first.
        begun = [(word, depth) for word, depth in longer if min(left, 1) <= depth <= left]
    return tuple([word for word, depth in begun if depth == 0])


def _with_one_more(language, word, depth):
    return [(word + token, depth_behind(language, sign, depth)) for token, sign in zip(TOKENS, language.SIGNS)]
