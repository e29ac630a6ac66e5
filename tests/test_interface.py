"""The names and arguments of the interface, as its sections list them."""

import importlib
import inspect
import unittest

FUNCTIONS = {
    "turns": ["identity(bits)", "then(turn, second)", "power(turn, number)", "inverse(turn)"],
    "makers": ["reversal(bits)", "shuffled(bits)", "backwards(bits)", "transposed(row_bits, column_bits)",
               "beside(turn, second)", "converted(word, second_word)"],
    "cycles": ["bit_cycles(turn)", "order(turn)", "left_by(turn, number)", "items_with(turn, number)",
               "cycle_counts(turn)", "cycle_count(turn)"],
    "when": ["period(turn, place)", "after(turn, place, number)", "turns_to(turn, place, other)",
             "all_home(turn, places)"],
    "sequence": ["inversions(turn)", "passed(turn, place)", "unlike_pairs(turn, second)"],
    "ways": ["greatest_way(turn)", "least_way(turn)", "square_sum(turn)", "rise_counts(turn)"],
    "stretches": ["stretch_count(turn)", "stretch_lengths(turn)", "longest_stretch(turn)", "stretch_of(turn, place)",
                  "block_bits(turn)"],
    "pages": ["page_spread(turn, page_bits)", "page_pairs(turn, page_bits)",
              "fewest_passes(turn, page_bits, memory_bits)", "extra_passes(turn, page_bits, memory_bits, turns)",
              "swap_count(turn)", "neighbour_swaps(turn)"],
    "told": ["agrees(turn, seen)", "turn_count(bits, seen)", "told_targets(bits, seen)",
             "first_contradiction(bits, seen)", "tells(bits, places)", "fewest_telling(bits)"],
    "texts": ["show_turn(turn)", "read_turn(text)"],
}
CLASSES = {
    "turns": {"Turn": ["__init__(self, targets, flips)", "bits", "targets", "flips", "goes_to(self, place)",
                       "__eq__(self, other)"]},
    "scripts": {
        "Script": ["__init__(self, bits, page_bits)", "bits", "page_bits", "whole", "spent", "__eq__(self, other)",
                   "add(self, turn)", "again(self, number)", "undo(self)", "log(self)", "preview(self, *operations)"],
        "BudgetScript": ["__init__(self, bits, page_bits, budget)", "budget", "__eq__(self, other)",
                         "add(self, turn)", "again(self, number)", "preview(self, *operations)"]},
    "console": {"Console": ["__init__(self)", "execute(self, command)"]},
}


def module_of(name):
    return importlib.import_module("indexturns." + name)


class InterfaceTest(unittest.TestCase):
    def test_functions(self):
        for name, signatures in FUNCTIONS.items():
            module = module_of(name)
            for signature in signatures:
                called = getattr(module, signature.split("(")[0])
                self.assertTrue(inspect.isfunction(called), signature)
                self.assertEqual(called.__name__ + str(inspect.signature(called)), signature)
                self.assertEqual(called.__module__, module.__name__)

    def test_classes(self):
        for name, classes in CLASSES.items():
            module = module_of(name)
            for class_name, members in classes.items():
                made = getattr(module, class_name)
                self.assertEqual(made.__module__, module.__name__)
                for member in members:
                    # What a class has itself, not from another one.
                    found = vars(made)[member.split("(")[0]]
                    if "(" in member:
                        self.assertEqual(found.__name__ + str(inspect.signature(found)), member)
                    else:
                        self.assertIsInstance(found, property)


if __name__ == "__main__":
    unittest.main()
