"""The interface: each function in its file, with its arguments under their names."""

import importlib
import inspect
import unittest

from bothdoors import counted, houses
from bothdoors.errors import NoText

ARGUMENTS = {
    "houses": {
        "read": ["text"],
        "written": ["house"],
        "met": ["house", "counts"],
        "leaving": ["house", "counts", "lot"],
        "parts": ["house", "counts"],
    },
    "counted": {
        "paper_of": ["house", "begin", "counts", "end"],
        "holds": ["house", "begin", "counts", "end", "paper"],
        "shut": ["house", "begin", "counts"],
        "greatest": ["house", "begin", "counts", "lot"],
        "least": ["house", "begin", "counts", "lot"],
    },
}


class Interface(unittest.TestCase):

    def test_each_function_is_defined_in_its_file(self):
        for file, functions in ARGUMENTS.items():
            module = importlib.import_module(f"bothdoors.{file}")
            for name in functions:
                with self.subTest(name):
                    self.assertTrue(inspect.isfunction(getattr(module, name)))
                    self.assertEqual(getattr(module, name).__module__, f"bothdoors.{file}")

    def test_each_function_has_its_arguments(self):
        for file, functions in ARGUMENTS.items():
            module = importlib.import_module(f"bothdoors.{file}")
            for name, arguments in functions.items():
                with self.subTest(name):
                    had = inspect.signature(getattr(module, name)).parameters.values()
                    self.assertEqual([one.name for one in had], arguments)
                    for one in had:
                        self.assertIs(one.kind, inspect.Parameter.POSITIONAL_OR_KEYWORD)
                        self.assertIs(one.default, inspect.Parameter.empty)


class SomewhatBeyond(unittest.TestCase):
    """Beyond the bounds no error is raised, but where a point says so."""

    def test_more_rooms_doors_and_figures(self):
        house = (12, [(room, room + 1) for room in range(11)] * 3)
        begin, counts = [10 ** 24] * 12, [10 ** 23] * 33
        self.assertEqual(houses.met(house, counts), [3 * 10 ** 23] + [6 * 10 ** 23] * 10 + [3 * 10 ** 23])
        self.assertEqual(houses.leaving(house, counts, [0, 1, 11]), 6 * 10 ** 23)
        self.assertEqual(houses.parts(house, counts), [list(range(12))])
        self.assertIsNone(counted.paper_of(house, begin, counts, begin))
        self.assertIsNone(counted.shut(house, begin, counts))
        self.assertEqual(counted.greatest(house, begin, counts, [0])[0], 13 * 10 ** 23)
        self.assertEqual(counted.least(house, begin, counts, [0])[0], 7 * 10 ** 23)
        self.assertIs(counted.holds(house, begin, counts, begin, ("lot", [11])), False)

    def test_a_house_of_eleven_rooms_is_written_but_not_read(self):
        text = houses.written((11, [(10, 0)]))
        self.assertEqual(text, "rooms 11\ndoor 10 0")
        self.assertRaises(NoText, houses.read, text)
