"""What guessers, books and programs do along a row."""

from keptbudgets.runs import bit_within


def errors_on(guesses, row):
    """At how many places the guesses and the row differ."""
    return len([1 for guess, sign in zip(guesses, row) if guess != sign])


def guesses_of(book, row):
    """The word of the guesses that a book makes along the row."""
    guesses = {word: str(bit) for word, bit in book}
    return "".join([guesses[row[:place]] for place in range(len(row))])


def play(guesser, row):
    """Asks a guesser for each bit of the row and then tells it; returns the word of its guesses."""
    guesses = ""
    for sign in row:
        guesses += str(guesser.guess())
        guesser.tell(int(sign))
    return guesses


def row_told_by(language, program, many, patience):
    """The first many bits that a program writes, each within patience steps of the one before; or None."""
    run = language.begin(program, "")
    for place in range(many):
        if bit_within(run, place, run.steps + patience) is None:
            return None
    return run.written
