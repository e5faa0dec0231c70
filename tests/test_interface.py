"""The interface of the document: names and arguments as they stand there."""

import importlib
import inspect
import unittest

from switchkinds.racks import Rack

FUNCTIONS = {
    "switchkinds.switches": {
        "is_switch": 1, "worth_at": 2, "ones": 1, "of_ones": 2, "constant": 2, "single": 2, "turned": 1,
        "both": 2, "either": 2, "unlike": 2, "all_switches": 1},
    "switchkinds.moves": {"is_move": 2, "moved": 2, "still": 1, "behind": 2, "back": 1, "all_moves": 1},
    "switchkinds.kinds": {
        "least_form": 1, "moves_to": 2, "keepers": 1, "kin_of": 1, "all_kinds": 1, "how_many_kinds": 1, "why_not": 2,
        "are_kin": 2, "is_why_not": 3},
    "switchkinds.hanging": {
        "how_much": 2, "needed": 1, "with_set": 3, "put_together": 3, "reduced": 1, "exchanged": 3, "alike_names": 1,
        "by_count": 1, "marks": 1},
    "switchkinds.sums": {
        "sums": 1, "of_sums": 1, "nearest": 1, "how_far": 1, "by_weights": 1, "is_sum": 1, "is_flattest": 1},
    "switchkinds.classes": {
        "classes": 1, "missing": 1, "put_in": 2, "made_of": 2, "rising_above": 1, "is_enough": 1},
    "switchkinds.texts": {"switch_text": 1, "read_switch": 1, "move_text": 2, "read_move": 2},
    "switchkinds.terms": {"is_term": 2, "held_at": 1, "of_terms": 2, "primes": 1, "essentials": 1},
    "switchkinds.products": {"products": 1, "of_products": 2, "degree": 1},
    "switchkinds.racks": {"Rack": 0, "rack_text": 1, "read_rack": 1},
}
METHODS = {
    "put": 2, "switch_of": 1, "take": 1, "join": 4, "turn": 1, "labels": 0, "like": 1, "back": 0, "forth": 0,
    "counts": 0, "twin": 0}


class Interface(unittest.TestCase):
    def has_arguments(self, asked, arguments, name):
        found = inspect.signature(asked).parameters.values()
        self.assertEqual(len(found), arguments, name)
        for parameter in found:
            self.assertEqual(parameter.kind, inspect.Parameter.POSITIONAL_OR_KEYWORD, name)
            self.assertIs(parameter.default, inspect.Parameter.empty, name)

    def test_each_function_is_there_with_its_arguments(self):
        for file, functions in FUNCTIONS.items():
            module = importlib.import_module(file)
            for name, arguments in functions.items():
                self.has_arguments(getattr(module, name), arguments, name)

    def test_each_method_is_there_with_its_arguments(self):
        for name, arguments in METHODS.items():
            self.has_arguments(getattr(Rack(), name), arguments, name)

    def test_a_rack_is_a_class(self):
        self.assertIsInstance(Rack, type)


if __name__ == "__main__":
    unittest.main()
