"""The interface: names, arguments by position, and where each thing is defined."""

import importlib
import inspect
import unittest

FUNCTIONS = {
    "families": {"whole": ["many"], "line": ["many"], "said": ["many", "sayings"], "without": ["family", "cell"],
                 "crossed": ["one", "other"]},
    "tables": {"spoken": ["table"], "cells_of": ["table", "form"], "common": ["table", "form"],
               "filled": ["table", "cell", "form"], "opened": ["table", "cell"],
               "joined": ["table", "one_form", "other_form"], "sames": ["table"]},
    "parts": {"part": ["table", "cells"], "spread": ["table", "family"], "merged": ["one", "other"]},
    "books": {"speaker": ["book", "cell"], "fitting": ["book", "cell"], "idle": ["book", "family"],
              "quarrels": ["book", "family"], "made": ["book", "family"], "makes": ["book", "table"],
              "first_unlike": ["one", "other", "family"], "unlike_cell": ["one", "other"]},
    "shapes": {"bare": ["book", "family"], "in_a_row": ["book"], "is_in_a_row": ["book", "thing"]},
    "rows": {"reaches": ["table"], "ring": ["table"], "is_ring": ["table", "thing"], "row_book": ["table"],
             "ring_by": ["table", "form"], "loose": ["table"], "levels": ["table"]},
    "orders": {"count_orders": ["table"], "order_number": ["table", "order"], "count_rows": ["table"],
               "order_at": ["table", "number"], "lightest": ["table"], "row_at": ["table", "number"],
               "row_number": ["table", "book"], "must_have": ["table"]},
    "holding": {"shrunk": ["table"], "strikes": ["table"], "all_withins": ["table"], "within_book": ["table"],
                "shrunk_bar": ["table"], "is_shrunk_bar": ["table", "thing"], "count_withins": ["table"],
                "by_sets": ["family", "sets"]},
    "weights": {"weights_for": ["table", "sets"], "mixture": ["table", "sets"], "is_mixture": ["table", "sets", "thing"],
                "least_weights": ["table", "sets"]},
    "ladders": {"weights_book": ["table"], "most_book": ["table"], "ladder": ["table"]},
    "opens": {"is_made": ["table", "manner"], "may_speak": ["table", "cell", "manner"], "settling": ["table", "manner"],
              "count_filled": ["table", "manner"], "all_filled": ["table", "manner"],
              "alike_ever": ["table", "manner", "first", "second"], "asked_next": ["table", "manner"]},
    "cores": {"core": ["table", "manner"], "opened_least": ["table", "manner"]},
    "sentences": {"ever": ["table", "manner", "sentence"], "way_with": ["table", "manner", "sentence", "flag"]},
    "questions": {"questions": ["table", "manner"], "question_tree": ["table", "manner"],
                  "is_question_tree": ["table", "manner", "thing"]},
    "chance": {"fewest_entries": ["table", "manner"], "parted": ["table", "manner"], "surely_apart": ["table", "manner"]},
    "rules": {"changed": ["rules", "cell"], "alike_behind": ["family", "rules"], "moved": ["table", "rules"],
              "one_strike": ["table", "manner"], "few_leads": ["table", "manner"]},
    "slotted": {"slots": ["table", "manner"], "never_parted": ["table", "manner"], "is_slots": ["table", "manner", "thing"]},
    "counting": {"pattern": ["table"], "pattern_at": ["family", "manner", "number"], "shut": ["family"], "all_made": ["family"],
                 "is_shut": ["family"], "table_of": ["family", "names"], "count_patterns": ["family", "manner"],
                 "pattern_number": ["family", "manner", "names"], "barring_lots": ["family"]},
    "patterns": {"meet": ["first", "second"], "join": ["first", "second"], "barred_least": ["family", "manner"]},
    "chains": {"one_chain": ["rows"]},
    "tongues": {"one_change": ["family", "book", "table"]},
    "strangers": {"asked": ["family", "stranger"], "refuted": ["family", "manner", "stranger"]},
    "texts": {"family_text": ["family"], "table_text": ["table"], "book_text": ["book"], "rules_text": ["rules"]},
    "reading": {"read_family": ["text"], "read_table": ["text"], "read_book": ["text"], "read_rules": ["text"]},
}
METHODS_OF_TONGUES = {
    "lose": ["number"], "win": ["number", "entry"], "drop": ["mark"], "standing": [], "table": [], "sames": [], "quarrels": [], "idle": [],
    "if_lost": ["number"], "if_won": ["number", "entry"], "back": [], "changes": [], "copy": [], "trying": ["action"],
}
CLASSES = {
    "families": {"Family": (["many", "cells"], {"__eq__": ["other"]})},
    "tables": {"Table": (["family", "forms"], {"__eq__": ["other"]})},
    "books": {"Book": (["manner", "entries", "weights"], {"__eq__": ["other"]})},
    "tongues": {"Tongue": (["family", "book"], METHODS_OF_TONGUES)},
    "desks": {"Desk": ([], {"tell": ["line"], "undoable": []})},
}


class Interface(unittest.TestCase):

    def test_functions(self):
        for file, functions in FUNCTIONS.items():
            module = importlib.import_module("sameforms." + file)
            for name, arguments in functions.items():
                function = vars(module)[name]
                self.assertTrue(inspect.isfunction(function), name)
                self.assertEqual(function.__module__, module.__name__, name)
                self.assertEqual(list(inspect.signature(function).parameters), arguments, name)

    def test_classes(self):
        for file, classes in CLASSES.items():
            module = importlib.import_module("sameforms." + file)
            for name, (arguments, methods) in classes.items():
                thing = vars(module)[name]
                self.assertTrue(inspect.isclass(thing), name)
                self.assertEqual(thing.__module__, module.__name__, name)
                self.assertEqual(list(inspect.signature(thing).parameters), arguments, name)
                for method, given in methods.items():
                    self.assertEqual(list(inspect.signature(vars(thing)[method]).parameters), ["self", *given], method)


if __name__ == "__main__":
    unittest.main()
