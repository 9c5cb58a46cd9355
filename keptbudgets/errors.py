"""The errors of the package; each keeps the values that it was made with."""


class BudgetError(ValueError):
    """What all errors of the package stand under; never raised itself."""


class InvalidNumber(BudgetError):
    """A value is not the number, the bit, or the fraction's lower part that was asked for."""

    def __init__(self, number):
        super().__init__("this number cannot be taken here")
        self.number = number


class InvalidWords(BudgetError):
    """A value is not a sequence of words."""

    def __init__(self, words):
        super().__init__("this is not a sequence of words")
        self.words = words


class InvalidBudgets(BudgetError):
    """A value is not the sequence of budgets that was asked for."""

    def __init__(self, budgets):
        super().__init__("these budgets cannot be taken here")
        self.budgets = budgets


class InvalidRows(BudgetError):
    """A value is not the sequence of rows that was asked for."""

    def __init__(self, rows):
        super().__init__("these rows cannot be taken here")
        self.rows = rows


class InvalidTable(BudgetError):
    """A value is not a sequence of entries of a table."""

    def __init__(self, entries):
        super().__init__("these are not the entries of a table")
        self.entries = entries


class Clash(BudgetError):
    """Of two words of a language one begins the other."""

    def __init__(self, first, second):
        super().__init__("one of two programs begins the other")
        self.first = first
        self.second = second


class TooFull(BudgetError):
    """There are no words of these lengths none of which begins another."""

    def __init__(self, lengths):
        super().__init__("there is no code of these lengths")
        self.lengths = lengths


class NoProgram(BudgetError):
    """A value is not a program of the language."""

    def __init__(self, program):
        super().__init__("this is not a program of the language")
        self.program = program


class InvalidText(BudgetError):
    """A value is not the text of a program."""

    def __init__(self, text, at):
        super().__init__("this is not the text of a program")
        self.text = text
        self.at = at


class NotWritten(BudgetError):
    """A row has no measure, so that it cannot be packed."""

    def __init__(self, row):
        super().__init__("this row is not one that is written")
        self.row = row
