"""What all guessers do when they are told a bit."""

from keptbudgets.checks import check_bit


def hear(guesser, bit):
    """Refuses any value but a bit; counts the error, if the guess is another one, and keeps the bit."""
    check_bit(bit)
    if guesser.guess() != bit:
        guesser.errors += 1
    guesser.seen += str(bit)
