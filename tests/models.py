"""Both small languages once more, told in another way: blocks as trees, runs as generators."""

import itertools
import re

REELS = ".01[+=~*"
STACKS = ".01[><!?"
CLOSERS = {REELS: ".*", STACKS: "."}


def word_of(text, signs):
    return "".join(format(signs.index(sign), "03b") for sign in text)


def text_of(word, signs):
    return "".join(signs[int(bits, 2)] for bits in re.findall("...", word))


def parse(text, signs):
    """The tree of a text and what is behind it: (rows of signs and trees, closer); None if it is no block."""
    items = []
    while text:
        sign, text = text[0], text[1:]
        if sign not in signs:
            return None
        if sign in CLOSERS[signs]:
            return ((items, sign), text)
        if sign == "[":
            inner = parse(text, signs)
            if inner is None:
                return None
            items.append(inner[0])
            text = inner[1]
        else:
            items.append(sign)
    return None


def is_program_text(text, signs):
    found = parse(text, signs)
    return found is not None and found[1] == ""


def begins_a_program(text, signs):
    """Whether it begins the text of some program: then it does so with closers enough behind it."""
    return any(is_program_text(text + "." * many, signs) for many in range(len(text) + 2))


def texts_of(tokens, signs):
    """All texts of programs of so many tokens, by going through all rows of signs."""
    rows = ("".join(row) for row in itertools.product(signs, repeat=tokens))
    return [text for text in rows if is_program_text(text, signs)]


def programs_of(length, signs):
    """All programs of this length, as words, ascending."""
    texts = [] if length % 3 else texts_of(length // 3, signs)
    return sorted(word_of(text, signs) for text in texts)


def count_of(tokens, signs, known={}):
    """How many programs: a closer; or another sign or an inner block, and a program behind it."""
    if (tokens, signs) not in known:
        closers = len(CLOSERS[signs])
        total = closers if tokens == 1 else 0
        if tokens > 1:
            total = (7 - closers) * count_of(tokens - 1, signs)
            for inner in range(1, tokens - 1):
                total += count_of(inner, signs) * count_of(tokens - 1 - inner, signs)
        known[tokens, signs] = total
    return known[tokens, signs]


def reels_told(text):
    """Yields what each step of a run of reels returns."""
    state = {"counter": 1, "written": []}

    def copied(flip):
        bits = [bit ^ flip for bit in state["written"]]
        return bits or [None]

    def block(tree, times):
        items, closer = tree
        done = 0
        while closer == "*" or done < times:
            for item in items:
                if isinstance(item, tuple):
                    yield None
                    yield from block(item, state["counter"])
                    continue
                if item == "+":
                    state["counter"] += 1
                    yield None
                    continue
                for bit in copied(item == "~") if item in "=~" else [int(item)]:
                    if bit is not None:
                        state["written"].append(bit)
                    yield bit
            done += 1
            if tree is not whole or closer == "*":
                yield None

    whole, _ = parse(text, REELS)
    yield from block(whole, 1)
    yield "end"


def stacks_told(text, given):
    """Yields what each step of a run of stacks returns; stacks are words, their tops first."""
    state = {"a": given, "b": ""}

    def take():
        top, state["a"] = state["a"][:1], state["a"][1:]
        return top

    def block(items):
        for item in items:
            if isinstance(item, tuple):
                while True:
                    top = take()
                    yield None
                    if top != "1":
                        break
                    yield from block(item[0])
                    yield None
            elif item == "!":
                top = take()
                yield int(top) if top else None
            else:
                if item == ">":
                    state["b"] = state["a"][:1] + state["b"]
                    state["a"] = state["a"][1:]
                elif item == "<":
                    state["a"] = state["b"][:1] + state["a"]
                    state["b"] = state["b"][1:]
                else:
                    state["a"] = (item if item in "01" else "0" if state["b"] else "1") + state["a"]
                yield None

    yield from block(parse(text, STACKS)[0][0])
    yield "end"


def first_of(told, many):
    return list(itertools.islice(told, many))


def some_texts(chance, tokens, many, signs):
    """So many texts of just so many tokens, each sign drawn among those that can still be closed."""
    for _ in range(many):
        text = ""
        depth = 1
        while len(text) < tokens:
            left = tokens - len(text) - 1
            sign = chance.choice(signs)
            behind = depth + (sign == "[") - (sign in CLOSERS[signs])
            if behind <= left and (behind > 0 or left == 0):
                text += sign
                depth = behind
        yield text
