import importlib
import inspect
import unittest

from holeslides.board import Board

# The functions of the interface, with their parameters.
FUNCTIONS = {
    "shapes": {"corners": ["shape"], "turned_over": ["shape"], "hooks": ["shape"], "count_sorted": ["shape"]},
    "pieces": {"is_sorted": ["missing", "rows"], "word_of": ["missing", "rows"]},
    "slides": {
        "holes": ["missing"], "ends": ["missing", "rows"], "slide": ["missing", "rows", "row"],
        "slide_back": ["missing", "rows", "row"], "straightened": ["missing", "rows"],
        "straightened_by": ["missing", "rows", "order"], "count_orders": ["missing"],
    },
    "words": {
        "straight_of": ["word"], "exchanges": ["word"], "are_alike": ["word", "other"], "chain": ["word", "other"],
        "longest": ["word", "many"], "longest_falling": ["word", "many"], "a_pick": ["word"],
    },
    "insertion": {
        "put_in": ["rows", "number"], "take_out": ["rows", "row"], "pair_of": ["word"], "word_from": ["rows", "order"],
    },
    "turning": {"least_out": ["rows"], "freed": ["rows"], "turned": ["rows"]},
    "sinks": {
        "sorted_of": ["rows"], "table_of": ["rows"], "filling_from": ["rows", "table"], "count_fillings": ["shape"],
        "table_numbered": ["shape", "number"],
    },
    "listing": {
        "count_between": ["shape", "missing"], "sorted_numbered": ["shape", "number"], "sorted_number": ["rows"],
        "all_sorted": ["shape"],
    },
}
# The methods of Board, with their parameters.
METHODS = {
    "__init__": ["self", "missing", "rows"], "__len__": ["self"], "holes": ["self"], "ends": ["self"],
    "word": ["self"], "straight": ["self"], "slide": ["self", "row"], "slide_back": ["self", "row"],
    "run": ["self", "order"], "undo": ["self"],
}


class TestInterface(unittest.TestCase):

    def test_functions_are_defined_in_their_files(self):
        for name, functions in FUNCTIONS.items():
            module = importlib.import_module("holeslides." + name)
            for function in functions:
                self.assertTrue(inspect.isfunction(getattr(module, function)), function)
                self.assertEqual(getattr(module, function).__module__, "holeslides." + name)

    def test_parameters_have_the_names_of_the_interface_and_no_defaults(self):
        for name, functions in FUNCTIONS.items():
            module = importlib.import_module("holeslides." + name)
            for function, expected in functions.items():
                parameters = inspect.signature(getattr(module, function)).parameters.values()
                self.assertEqual([parameter.name for parameter in parameters], expected, function)
                for parameter in parameters:
                    self.assertEqual(parameter.kind, inspect.Parameter.POSITIONAL_OR_KEYWORD)
                    self.assertIs(parameter.default, inspect.Parameter.empty)

    def test_boards_are_defined_in_their_file_with_all_their_methods(self):
        self.assertTrue(inspect.isclass(Board))
        self.assertEqual(Board.__module__, "holeslides.board")
        for name, expected in METHODS.items():
            self.assertTrue(inspect.isfunction(vars(Board)[name]), name)
            parameters = inspect.signature(vars(Board)[name]).parameters.values()
            self.assertEqual([parameter.name for parameter in parameters], expected, name)
            for parameter in parameters:
                self.assertEqual(parameter.kind, inspect.Parameter.POSITIONAL_OR_KEYWORD)
                self.assertIs(parameter.default, inspect.Parameter.empty)

    def test_boards_have_two_properties(self):
        for name in ["missing", "rows"]:
            self.assertIsInstance(vars(Board)[name], property)
            self.assertIs(type(getattr(Board([1], [[2]]), name)), list)

    def test_generators_are_those_that_the_interface_names(self):
        generators = [
            (name, function) for name, functions in FUNCTIONS.items() for function in functions
            if inspect.isgeneratorfunction(getattr(importlib.import_module("holeslides." + name), function))
        ]
        self.assertEqual(generators, [("listing", "all_sorted")])
        self.assertEqual([name for name in METHODS if inspect.isgeneratorfunction(vars(Board)[name])], ["run"])


if __name__ == "__main__":
    unittest.main()
