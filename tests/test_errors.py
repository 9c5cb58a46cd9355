import unittest

from keptbudgets import errors
from helpers import any_values

NAMES = {
    "InvalidNumber": ("number",),
    "InvalidWords": ("words",),
    "InvalidBudgets": ("budgets",),
    "InvalidRows": ("rows",),
    "InvalidTable": ("entries",),
    "Clash": ("first", "second"),
    "TooFull": ("lengths",),
    "NoProgram": ("program",),
    "InvalidText": ("text", "at"),
    "NotWritten": ("row",),
}


class Odd:
    def __repr__(self):
        raise RuntimeError("not to be shown")


class ErrorsTest(unittest.TestCase):
    def test_they_stand_directly_under_budget_error(self):
        self.assertEqual(errors.BudgetError.__bases__, (ValueError,))
        for name in NAMES:
            self.assertEqual(getattr(errors, name).__bases__, (errors.BudgetError,), name)

    def test_there_are_no_others(self):
        found = {name for name in vars(errors) if isinstance(vars(errors)[name], type)}
        self.assertEqual(found, set(NAMES) | {"BudgetError"})

    def test_values_by_place_and_by_name_are_the_very_ones(self):
        values = any_values() + [object(), Odd(), {}, 10 ** 5000, ValueError("x")]
        for name, arguments in NAMES.items():
            error = getattr(errors, name)
            for k, value in enumerate(values):
                given = [value, values[k - 1]][:len(arguments)]
                by_place = error(*given)
                by_name = error(**dict(zip(arguments, given)))
                for made in (by_place, by_name):
                    for argument, one in zip(arguments, given):
                        self.assertIs(getattr(made, argument), one)

    def test_they_take_just_their_arguments(self):
        for name, arguments in NAMES.items():
            with self.assertRaises(TypeError):
                getattr(errors, name)()
            with self.assertRaises(TypeError):
                getattr(errors, name)(*range(len(arguments) + 1))

    def test_they_can_be_raised_and_caught_by_each_name(self):
        for name, arguments in NAMES.items():
            for kind in (getattr(errors, name), errors.BudgetError, ValueError):
                with self.assertRaises(kind) as caught:
                    raise getattr(errors, name)(*arguments)
                self.assertEqual([getattr(caught.exception, one) for one in arguments], list(arguments))
                self.assertIsInstance(str(caught.exception), str)


if __name__ == "__main__":
    unittest.main()
