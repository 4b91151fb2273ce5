import importlib
import inspect
import unittest

# The functions of the interface that have landed, with their parameters.
FUNCTIONS = {
    "shapes": {"corners": ["shape"], "turned_over": ["shape"], "hooks": ["shape"], "count_sorted": ["shape"]},
    "pieces": {"is_sorted": ["missing", "rows"], "word_of": ["missing", "rows"]},
    "slides": {
        "holes": ["missing"], "ends": ["missing", "rows"], "slide": ["missing", "rows", "row"],
        "slide_back": ["missing", "rows", "row"], "straightened": ["missing", "rows"],
        "straightened_by": ["missing", "rows", "order"], "count_orders": ["missing"],
    },
    "words": {
        "straight_of": ["word"], "exchanges": ["word"], "are_alike": ["word", "other"], "chain": ["word", "other"],
        "longest": ["word", "many"], "longest_falling": ["word", "many"], "a_pick": ["word"],
    },
    "insertion": {
        "put_in": ["rows", "number"], "take_out": ["rows", "row"], "pair_of": ["word"], "word_from": ["rows", "order"],
    },
}


class TestInterface(unittest.TestCase):

    def test_functions_are_defined_in_their_files(self):
        for name, functions in FUNCTIONS.items():
            module = importlib.import_module("holeslides." + name)
            for function in functions:
                self.assertTrue(inspect.isfunction(getattr(module, function)), function)
                self.assertEqual(getattr(module, function).__module__, "holeslides." + name)

    def test_parameters_have_the_names_of_the_interface_and_no_defaults(self):
        for name, functions in FUNCTIONS.items():
            module = importlib.import_module("holeslides." + name)
            for function, expected in functions.items():
                parameters = inspect.signature(getattr(module, function)).parameters.values()
                self.assertEqual([parameter.name for parameter in parameters], expected, function)
                for parameter in parameters:
                    self.assertEqual(parameter.kind, inspect.Parameter.POSITIONAL_OR_KEYWORD)
                    self.assertIs(parameter.default, inspect.Parameter.empty)


if __name__ == "__main__":
    unittest.main()
