"""The interface of the document: names and arguments as they stand there."""

import importlib
import inspect
import unittest

FUNCTIONS = {
    "switchkinds.switches": {
        "is_switch": 1, "worth_at": 2, "ones": 1, "of_ones": 2, "constant": 2, "single": 2, "turned": 1,
        "both": 2, "either": 2, "unlike": 2, "all_switches": 1},
    "switchkinds.moves": {"is_move": 2, "moved": 2, "still": 1, "behind": 2, "back": 1, "all_moves": 1},
}


class Interface(unittest.TestCase):
    def test_each_function_is_there_with_its_arguments(self):
        for file, functions in FUNCTIONS.items():
            module = importlib.import_module(file)
            for name, arguments in functions.items():
                found = inspect.signature(getattr(module, name)).parameters.values()
                self.assertEqual(len(found), arguments, name)
                for parameter in found:
                    self.assertEqual(parameter.kind, inspect.Parameter.POSITIONAL_OR_KEYWORD, name)
                    self.assertIs(parameter.default, inspect.Parameter.empty, name)


if __name__ == "__main__":
    unittest.main()
