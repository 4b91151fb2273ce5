import importlib
import inspect
import unittest

# The functions of the interface that have landed, with their parameters.
FUNCTIONS = {
    "shapes": {"corners": ["shape"], "turned_over": ["shape"], "hooks": ["shape"], "count_sorted": ["shape"]},
    "pieces": {"is_sorted": ["missing", "rows"], "word_of": ["missing", "rows"]},
}


class TestInterface(unittest.TestCase):

    def test_functions_are_defined_in_their_files(self):
        for name, functions in FUNCTIONS.items():
            module = importlib.import_module("holeslides." + name)
            for function in functions:
                self.assertTrue(inspect.isfunction(getattr(module, function)), function)
                self.assertEqual(getattr(module, function).__module__, "holeslides." + name)

    def test_parameters_have_the_names_of_the_interface_and_no_defaults(self):
        for name, functions in FUNCTIONS.items():
            module = importlib.import_module("holeslides." + name)
            for function, expected in functions.items():
                parameters = inspect.signature(getattr(module, function)).parameters.values()
                self.assertEqual([parameter.name for parameter in parameters], expected, function)
                for parameter in parameters:
                    self.assertEqual(parameter.kind, inspect.Parameter.POSITIONAL_OR_KEYWORD)
                    self.assertIs(parameter.default, inspect.Parameter.empty)


if __name__ == "__main__":
    unittest.main()
