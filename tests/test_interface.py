import ast
import pathlib
import unittest

PACKAGE = pathlib.Path(__file__).resolve().parent.parent / "keptbudgets"

# As the document lists them: the functions and classes of each file with their arguments, with a star ahead of
# those that are passed by name only.
FUNCTIONS = {
    "shares": {"half_of": ["length"]},
    "codes": {"is_word": ["value"], "first_clash": ["words"], "share_of": ["words"], "code_of": ["lengths"],
              "split": ["words", "text"]},
    "listing": {"count_programs": ["language", "tokens"], "program_of_number": ["language", "tokens", "number"],
                "number_of_program": ["language", "program"]},
    "joins": {"cut_pair": ["pair", "program"]},
    "budgets": {"sum_of": ["budgets"], "can_keep": ["budgets"], "least_everywhere": ["budgets"],
                "worst_language": ["budgets"]},
    "games": {"judge_book": ["rows", "budgets", "book", "*flips"],
              "judge_tree": ["rows", "budgets", "tree", "*flips"]},
    "needs": {"least_more": ["rows", "budgets", "*flips"], "least_errors": ["rows", "*flips"],
              "least_budget": ["rows", "budgets", "program"]},
    "chips": {"chip_weight": ["budget", "flips"], "chip_sum": ["budgets", "flips"]},
    "guessers": {"errors_of": ["language", "program", "patience", "row"]},
    "packing": {"chance_of": ["language", "most", "patience", "row"], "low_of": ["language", "most", "patience", "row"],
                "pack": ["language", "most", "patience", "row"],
                "unpack": ["language", "most", "patience", "many", "text"]},
    "texts": {"write_reels": ["program"], "write_stacks": ["program"], "read_reels": ["text"], "read_stacks": ["text"]},
}
LANGUAGE = {"programs": ["length"], "is_program": ["program"], "begin": ["program", "given"]}
RUN = {"step": [], "go": ["many"]}
GUESSER = {"guess": [], "tell": ["bit"]}
CLASSES = {
    "shares": {"Share": {"__init__": ["over", "under"], "__add__": ["other"], "__sub__": ["other"],
                         "__mul__": ["other"], "__eq__": ["other"], "is_below": ["other"]}},
    "tables": {"Table": {"__init__": ["entries"], **LANGUAGE}, "TableRun": RUN},
    "reels": {"Reels": LANGUAGE, "ReelsRun": RUN},
    "stacks": {"Stacks": LANGUAGE, "StacksRun": RUN},
    "joins": {"Both": {"__init__": ["one", "other"], **LANGUAGE}, "Pair": {"__init__": ["one", "other"], **LANGUAGE},
              "PairRun": RUN},
    "budgets": {"Keeper": {"__init__": ["rows", "budgets"], **GUESSER, "living": []},
                "Breaker": {"__init__": ["budgets"], "answer": ["bit"]}},
    "games": {"Game": {"__init__": ["rows", "budgets", "*flips"], "need": [], "is_kept": [], "book": [], "tree": []}},
    "chips": {"ChipKeeper": {"__init__": ["rows", "budgets", "flips"], **GUESSER, "living": []}},
    "guessers": {"Guesser": {"__init__": ["language", "most", "patience"], **GUESSER, "living": [], "weight": []},
                 "Forgiving": {"__init__": ["language", "most", "patience"], **GUESSER, "weight": []}},
    "sources": {"Source": {"__init__": ["rows"], "chance": ["word"]}},
    "errors": {"BudgetError": {}, "InvalidNumber": {"__init__": ["number"]}, "InvalidWords": {"__init__": ["words"]},
               "InvalidBudgets": {"__init__": ["budgets"]}, "InvalidRows": {"__init__": ["rows"]},
               "InvalidTable": {"__init__": ["entries"]}, "Clash": {"__init__": ["first", "second"]},
               "TooFull": {"__init__": ["lengths"]}, "NoProgram": {"__init__": ["program"]},
               "InvalidText": {"__init__": ["text", "at"]}, "NotWritten": {"__init__": ["row"]}},
}


def tree_of(module):
    return ast.parse((PACKAGE / (module + ".py")).read_text())


def arguments_of(function):
    """The names of the arguments, with a star ahead of those that are passed by name only."""
    by_place = [argument.arg for argument in function.args.args]
    return by_place + ["*" + argument.arg for argument in function.args.kwonlyargs]


def defined_in(body, kind):
    return {part.name: part for part in body if isinstance(part, kind)}


class InterfaceTest(unittest.TestCase):
    def test_functions_are_defined_where_they_are_listed(self):
        for module, listed in FUNCTIONS.items():
            found = defined_in(tree_of(module).body, ast.FunctionDef)
            for name, arguments in listed.items():
                self.assertEqual(arguments_of(found[name]), arguments, name)

    def test_classes_have_their_methods_in_their_own_bodies(self):
        for module, listed in CLASSES.items():
            classes = defined_in(tree_of(module).body, ast.ClassDef)
            for name, methods in listed.items():
                found = defined_in(classes[name].body, ast.FunctionDef)
                for method, arguments in methods.items():
                    self.assertEqual(arguments_of(found[method])[1:], arguments, (name, method))


if __name__ == "__main__":
    unittest.main()
