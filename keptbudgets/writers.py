"""Programs that write rows of one length, each of which may differ from its row at some places."""


class Writers:
    """The rows of programs, and how many flips each program has."""

    def __init__(self, rows, flips):
        self.rows = tuple(rows)
        self.flips = tuple(flips)
        self.length = len(rows[0])

    def flips_left(self, program, word):
        """How many flips the program has left behind a word; below 0 if it cannot write it."""
        row = self.rows[program]
        return self.flips[program] - len([1 for told, own in zip(word, row) if told != own])

    def living_at(self, word):
        """The programs that may write a row that begins with the word, ascending."""
        if len(word) > self.length:
            return ()
        return tuple([k for k in range(len(self.rows)) if self.flips_left(k, word) >= 0])

    def is_begun_by(self, word):
        """Whether some program may write a row that begins with the word."""
        return len(self.living_at(word)) > 0

    def beginnings(self):
        """All words that begin rows that may be written, ascending, whole rows included."""
        found = [""]
        longest = [""]
        for _ in range(self.length):
            longer = [word + sign for word in longest for sign in "01"]
            longest = [word for word in longer if self.is_begun_by(word)]
            found.extend(longest)
        return found

    def is_whole(self, word):
        """Whether a word is as long as the rows."""
        return len(word) == self.length


def without_flips(rows):
    """The writers of just these rows."""
    return Writers(rows, [0] * len(rows))
