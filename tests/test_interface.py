import ast
import pathlib
import unittest

PACKAGE = pathlib.Path(__file__).resolve().parent.parent / "keptbudgets"

# As the document lists them: the functions and classes of each file with their arguments, with a star ahead of
# those that are passed by name only.
FUNCTIONS = {
    "shares": {"half_of": ["length"]},
    "codes": {"is_word": ["value"], "first_clash": ["words"], "share_of": ["words"], "code_of": ["lengths"],
              "split": ["words", "text"]},
    "listing": {"count_programs": ["language", "tokens"], "program_of_number": ["language", "tokens", "number"],
                "number_of_program": ["language", "program"]},
    "joins": {"cut_pair": ["pair", "program"]},
    "budgets": {"sum_of": ["budgets"], "can_keep": ["budgets"], "least_everywhere": ["budgets"],
                "worst_language": ["budgets"]},
    "games": {"judge_book": ["rows", "budgets", "book", "*flips"],
              "judge_tree": ["rows", "budgets", "tree", "*flips"]},
    "needs": {"least_more": ["rows", "budgets", "*flips"], "least_errors": ["rows", "*flips"],
              "least_budget": ["rows", "budgets", "program"]},
    "chips": {"chip_weight": ["budget", "flips"], "chip_sum": ["budgets", "flips"]},
    "guessers": {"errors_of": ["language", "program", "patience", "row"]},
    "packing": {"chance_of": ["language", "most", "patience", "row"], "low_of": ["language", "most", "patience", "row"],
                "pack": ["language", "most", "patience", "row"],
                "unpack": ["language", "most", "patience", "many", "text"]},
    "losses": {"greatest_sum": ["sources", "factors", "many"], "measure_for": ["sources", "factors", "many"],
               "least_loss": ["sources", "many"], "judge_measure": ["sources", "factors", "many", "measure"]},
    "least": {"least_program": ["language", "word", "most", "steps", "*given"],
              "told_words": ["language", "most", "steps", "*given"], "untold": ["language", "many", "most", "steps"],
              "chance_to_write": ["language", "word", "most", "steps"], "share_of_ended": ["language", "most", "steps"]},
    "measures": {"shortest": ["language", "word", "most", "steps", "*given"],
                 "distance": ["language", "first", "second", "most", "steps"],
                 "rows_of": ["language", "most", "patience", "many"]},
    "coins": {"mean_errors": ["book", "row"], "coin_sum": ["halves"]},
    "endless": {"endless_sum": ["counts", "each"], "endless_can_keep": ["counts", "each"],
                "first_part": ["counts", "each"]},
    "audits": {"errors_on": ["guesses", "row"], "guesses_of": ["book", "row"], "play": ["guesser", "row"],
               "row_told_by": ["language", "program", "many", "patience"]},
    "held": {"stand_of": ["run"], "run_from": ["language", "stand"]},
    "texts": {"write_reels": ["program"], "write_stacks": ["program"], "read_reels": ["text"], "read_stacks": ["text"]},
}
DEFAULTS = {"*flips": "None", "*given": "''"}
LANGUAGE = {"programs": ["length"], "is_program": ["program"], "begin": ["program", "given"]}
RUN = {"step": [], "go": ["many"]}
GUESSER = {"guess": [], "tell": ["bit"]}
CLASSES = {
    "shares": {"Share": {"__init__": ["over", "under"], "__add__": ["other"], "__sub__": ["other"],
                         "__mul__": ["other"], "__eq__": ["other"], "is_below": ["other"]}},
    "tables": {"Table": {"__init__": ["entries"], **LANGUAGE}, "TableRun": RUN},
    "reels": {"Reels": LANGUAGE, "ReelsRun": RUN},
    "stacks": {"Stacks": LANGUAGE, "StacksRun": RUN},
    "joins": {"Both": {"__init__": ["one", "other"], **LANGUAGE}, "Pair": {"__init__": ["one", "other"], **LANGUAGE},
              "PairRun": RUN},
    "budgets": {"Keeper": {"__init__": ["rows", "budgets"], **GUESSER, "living": []},
                "Breaker": {"__init__": ["budgets"], "answer": ["bit"]}},
    "games": {"Game": {"__init__": ["rows", "budgets", "*flips"], "need": [], "is_kept": [], "book": [], "tree": []}},
    "chips": {"ChipKeeper": {"__init__": ["rows", "budgets", "flips"], **GUESSER, "living": []}},
    "guessers": {"Guesser": {"__init__": ["language", "most", "patience"], **GUESSER, "living": [], "weight": []},
                 "Forgiving": {"__init__": ["language", "most", "patience"], **GUESSER, "weight": []}},
    "coders": {"SourceCoder": {"__init__": ["sources", "many"], "chance": ["word"], "pack": ["word"],
                               "unpack": ["text"]}},
    "coins": {"CoinGame": {"__init__": ["rows", "halves"], "need": [], "is_kept": [], "book": []}},
    "sources": {"Source": {"__init__": ["rows"], "chance": ["word"]}},
    "errors": {"BudgetError": {}, "InvalidNumber": {"__init__": ["number"]}, "InvalidWords": {"__init__": ["words"]},
               "InvalidBudgets": {"__init__": ["budgets"]}, "InvalidRows": {"__init__": ["rows"]},
               "InvalidTable": {"__init__": ["entries"]}, "Clash": {"__init__": ["first", "second"]},
               "TooFull": {"__init__": ["lengths"]}, "NoProgram": {"__init__": ["program"]},
               "InvalidText": {"__init__": ["text", "at"]}, "NotWritten": {"__init__": ["row"]}},
}


def tree_of(module):
    return ast.parse((PACKAGE / (module + ".py")).read_text())


def arguments_of(function):
    """The names of the arguments, with a star ahead of those that are passed by name only."""
    by_place = [argument.arg for argument in function.args.args]
    return by_place + ["*" + argument.arg for argument in function.args.kwonlyargs]


def defaults_of(function):
    """What the arguments are that are not passed, told as written."""
    return [ast.unparse(value) for value in function.args.defaults + function.args.kw_defaults if value is not None]


def defined_in(body, kind):
    return {part.name: part for part in body if isinstance(part, kind)}


class InterfaceTest(unittest.TestCase):
    def test_functions_are_defined_where_they_are_listed(self):
        for module, listed in FUNCTIONS.items():
            found = defined_in(tree_of(module).body, ast.FunctionDef)
            for name, arguments in listed.items():
                self.assertEqual(arguments_of(found[name]), arguments, name)
                self.assertEqual(defaults_of(found[name]), [DEFAULTS[word] for word in arguments if word[0] == "*"])

    def test_classes_have_their_methods_in_their_own_bodies(self):
        for module, listed in CLASSES.items():
            classes = defined_in(tree_of(module).body, ast.ClassDef)
            for name, methods in listed.items():
                found = defined_in(classes[name].body, ast.FunctionDef)
                for method, arguments in methods.items():
                    self.assertEqual(arguments_of(found[method])[1:], arguments, (name, method))
                    self.assertEqual(defaults_of(found[method]), [DEFAULTS[word] for word in arguments if word[0] == "*"])


if __name__ == "__main__":
    unittest.main()
