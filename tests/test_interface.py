import ast
import pathlib
import unittest

PACKAGE = pathlib.Path(__file__).resolve().parent.parent / "keptbudgets"

# As the document lists them: the functions and classes of each file with their arguments.
FUNCTIONS = {
    "shares": {"half_of": ["length"]},
    "codes": {"is_word": ["value"], "first_clash": ["words"], "share_of": ["words"], "code_of": ["lengths"],
              "split": ["words", "text"]},
    "listing": {"count_programs": ["language", "tokens"], "program_of_number": ["language", "tokens", "number"],
                "number_of_program": ["language", "program"]},
    "texts": {"write_reels": ["program"], "write_stacks": ["program"], "read_reels": ["text"], "read_stacks": ["text"]},
}
LANGUAGE = {"programs": ["length"], "is_program": ["program"], "begin": ["program", "given"]}
RUN = {"step": [], "go": ["many"]}
CLASSES = {
    "shares": {"Share": {"__init__": ["over", "under"], "__add__": ["other"], "__sub__": ["other"],
                         "__mul__": ["other"], "__eq__": ["other"], "is_below": ["other"]}},
    "tables": {"Table": {"__init__": ["entries"], **LANGUAGE}, "TableRun": RUN},
    "reels": {"Reels": LANGUAGE, "ReelsRun": RUN},
    "stacks": {"Stacks": LANGUAGE, "StacksRun": RUN},
    "errors": {"BudgetError": {}, "InvalidNumber": {"__init__": ["number"]}, "InvalidWords": {"__init__": ["words"]},
               "InvalidBudgets": {"__init__": ["budgets"]}, "InvalidRows": {"__init__": ["rows"]},
               "InvalidTable": {"__init__": ["entries"]}, "Clash": {"__init__": ["first", "second"]},
               "TooFull": {"__init__": ["lengths"]}, "NoProgram": {"__init__": ["program"]},
               "InvalidText": {"__init__": ["text", "at"]}, "NotWritten": {"__init__": ["row"]}},
}


def tree_of(module):
    return ast.parse((PACKAGE / (module + ".py")).read_text())


def arguments_of(function):
    return [argument.arg for argument in function.args.args]


def defined_in(body, kind):
    return {part.name: part for part in body if isinstance(part, kind)}


class InterfaceTest(unittest.TestCase):
    def test_functions_are_defined_where_they_are_listed(self):
        for module, listed in FUNCTIONS.items():
            found = defined_in(tree_of(module).body, ast.FunctionDef)
            for name, arguments in listed.items():
                self.assertEqual(arguments_of(found[name]), arguments, name)

    def test_classes_have_their_methods_in_their_own_bodies(self):
        for module, listed in CLASSES.items():
            classes = defined_in(tree_of(module).body, ast.ClassDef)
            for name, methods in listed.items():
                found = defined_in(classes[name].body, ast.FunctionDef)
                for method, arguments in methods.items():
                    self.assertEqual(arguments_of(found[method])[1:], arguments, (name, method))


if __name__ == "__main__":
    unittest.main()
