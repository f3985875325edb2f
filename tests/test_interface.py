"""The names and arguments that the document's interface lists."""

import inspect
import unittest

from loosemarks import checker, moves, numbers, piles, settling, sums, texts, walking

INTERFACE = {
    piles: {
        "is_pile": ["thing"],
        "is_row": ["thing"],
        "need_pile": ["thing"],
        "need_row": ["thing"],
        "pile_of": ["places"],
        "worth": ["pile"],
    },
    moves: {
        "moves_of": ["pile"],
        "done": ["pile", "move"],
        "weight": ["pile"],
    },
    settling: {
        "paper_of": ["pile", "pick=None"],
        "settled": ["pile", "pick=None"],
    },
    checker: {
        "is_right": ["pile", "paper", "row"],
        "fails_at": ["pile", "paper"],
    },
    numbers: {
        "row_of": ["number"],
        "number_of": ["row"],
        "compare": ["one", "other"],
    },
    sums: {
        "plus": ["one", "other", "pick=None"],
        "minus": ["one", "other"],
        "times": ["one", "other"],
        "moved": ["row", "places=1"],
        "opened": ["pile", "k"],
    },
    walking: {
        "next_row": ["row"],
        "last_row": ["row"],
        "rows_from": ["row", "many"],
    },
    texts: {
        "pile_text": ["pile"],
        "read_pile": ["text"],
        "read_row": ["text"],
    },
}


class TestInterface(unittest.TestCase):
    def test_each_function_is_defined_in_its_file(self):
        for module, functions in INTERFACE.items():
            for name in functions:
                with self.subTest(name):
                    self.assertTrue(inspect.isfunction(getattr(module, name)))
                    self.assertEqual(getattr(module, name).__module__, module.__name__)

    def test_each_function_has_its_arguments(self):
        for module, functions in INTERFACE.items():
            for name, arguments in functions.items():
                with self.subTest(name):
                    parameters = inspect.signature(getattr(module, name)).parameters
                    self.assertEqual([str(parameter) for parameter in parameters.values()], arguments)


if __name__ == "__main__":
    unittest.main()
