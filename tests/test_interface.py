"""The interface: each function in its file, with its arguments under their names."""

import importlib
import inspect
import unittest

from bothdoors import counted, ends, goings, hall, houses, moments, sessions, stories, tapes
from bothdoors.errors import NoText

ARGUMENTS = {
    "houses": {
        "read": ["text"],
        "written": ["house"],
        "met": ["house", "counts"],
        "leaving": ["house", "counts", "lot"],
        "parts": ["house", "counts"],
    },
    "counted": {
        "paper_of": ["house", "begin", "counts", "end"],
        "holds": ["house", "begin", "counts", "end", "paper"],
        "shut": ["house", "begin", "counts"],
        "greatest": ["house", "begin", "counts", "lot"],
        "least": ["house", "begin", "counts", "lot"],
    },
    "goings": {
        "goings": ["house", "begin", "counts", "end"],
        "goings_fault": ["house", "begin", "counts", "end", "row"],
        "fewest": ["house", "counts"],
    },
    "ends": {
        "ends": ["house", "begin", "counts"],
        "led": ["house", "begin", "counts", "end", "other"],
    },
    "tapes": {
        "most_out": ["house", "begin", "tape", "room", "moment"],
        "least_out": ["house", "begin", "tape", "room", "moment"],
        "turned": ["tape"],
        "tape_of": ["books"],
    },
    "stories": {
        "story": ["house", "begin", "tape"],
        "story_right": ["house", "begin", "tape", "ways"],
        "paper_right": ["house", "begin", "tape", "paper"],
    },
    "moments": {
        "room_at": ["house", "begin", "tape", "moment", "room"],
        "lot_now": ["house", "begin", "tape", "lot"],
        "sure": ["house", "begin", "tape"],
    },
    "sessions": {
        "session": ["house", "begin", "rows"],
    },
}
METHODS = {
    "__init__": ["house", "begin"],
    "bead": ["door", "way"],
    "look": ["room", "least", "most"],
    "seen": ["bead", "way"],
    "strike": ["look"],
    "mark": [],
    "undo": ["mark"],
    "house": [],
    "begin": [],
    "tape": [],
    "story": [],
    "room": ["room", "moment"],
    "lot": ["rooms"],
    "sure": [],
    "end": ["numbers"],
    "news": [],
}


class Interface(unittest.TestCase):

    def test_each_function_is_defined_in_its_file(self):
        for file, functions in ARGUMENTS.items():
            module = importlib.import_module(f"bothdoors.{file}")
            for name in functions:
                with self.subTest(name):
                    self.assertTrue(inspect.isfunction(getattr(module, name)))
                    self.assertEqual(getattr(module, name).__module__, f"bothdoors.{file}")

    def test_each_function_has_its_arguments(self):
        for file, functions in ARGUMENTS.items():
            module = importlib.import_module(f"bothdoors.{file}")
            for name, arguments in functions.items():
                with self.subTest(name):
                    had = inspect.signature(getattr(module, name)).parameters.values()
                    self.assertEqual([one.name for one in had], arguments)
                    for one in had:
                        self.assertIs(one.kind, inspect.Parameter.POSITIONAL_OR_KEYWORD)
                        self.assertIs(one.default, inspect.Parameter.empty)

    def test_the_hall_is_defined_in_its_file_with_its_methods_in_itself(self):
        self.assertEqual(hall.Hall.__module__, "bothdoors.hall")
        for name, arguments in METHODS.items():
            with self.subTest(name):
                self.assertTrue(inspect.isfunction(vars(hall.Hall)[name]))
                _, *had = inspect.signature(vars(hall.Hall)[name]).parameters.values()
                self.assertEqual([one.name for one in had], arguments)
                for one in had:
                    by_name = name == "bead" and one.name == "way"
                    self.assertIs(one.kind, one.KEYWORD_ONLY if by_name else one.POSITIONAL_OR_KEYWORD)
                    self.assertEqual(one.default, -1 if by_name else one.empty)


class SomewhatBeyond(unittest.TestCase):
    """Beyond the bounds no error is raised, but where a point says so."""

    def test_more_rooms_doors_and_figures(self):
        house = (12, [(room, room + 1) for room in range(11)] * 3)
        begin, counts = [10 ** 24] * 12, [10 ** 23] * 33
        self.assertEqual(houses.met(house, counts), [3 * 10 ** 23] + [6 * 10 ** 23] * 10 + [3 * 10 ** 23])
        self.assertEqual(houses.leaving(house, counts, [0, 1, 11]), 6 * 10 ** 23)
        self.assertEqual(houses.parts(house, counts), [list(range(12))])
        self.assertIsNone(counted.paper_of(house, begin, counts, begin))
        self.assertIsNone(counted.shut(house, begin, counts))
        self.assertEqual(counted.greatest(house, begin, counts, [0])[0], 13 * 10 ** 23)
        self.assertEqual(counted.least(house, begin, counts, [0])[0], 7 * 10 ** 23)
        self.assertIs(counted.holds(house, begin, counts, begin, ("lot", [11])), False)

    def test_more_goings_and_ends(self):
        house = (12, [(room, room + 1) for room in range(11)])
        begin, counts, end = [1] + [0] * 11, [41] * 11, [0] * 11 + [1]
        row = goings.goings(house, begin, counts, end)
        self.assertEqual(len(row), 451)
        self.assertIsNone(goings.goings_fault(house, begin, counts, end, row))
        self.assertEqual(goings.goings_fault(house, begin, counts, begin, row * 2), ("empty", 451))
        self.assertEqual(sum(goings.fewest(house, counts)), 1)
        self.assertEqual(ends.ends(house, begin, counts), [end])
        self.assertEqual(ends.ends((2, [(0, 1)]), [5000, 0], [4800])[::2400], [[200, 4800], [5000, 0]])
        self.assertEqual(len(ends.led((2, [(0, 1)]), [900, 0], [600], [300, 600], [900, 0])), 301)

    def test_longer_tapes_of_more_books(self):
        house, row, looks = (12, [(11, 0)]), [(0, 0), (0, 1)] * 200, [(at, 11, 0, 9) for at in range(401)]
        self.assertEqual(tapes.most_out(house, [0] * 12, (row, looks), 11, 400), 200)
        self.assertEqual(tapes.least_out(house, [0] * 12, (row, looks), 11, 400), 196)
        self.assertEqual(tapes.turned(tapes.turned((row, looks))), (row, looks))
        books = [[(2 * at, *bead)] for at, bead in enumerate(row)] + [[(2 * at - 1, *look[1:]) for at, look in
                                                                       enumerate(looks)]]
        self.assertEqual(tapes.tape_of(books[::-1]), (row, looks))

    def test_longer_stories_and_halls(self):
        house, begin = (12, [(room, room + 1) for room in range(11)] * 3), [10 ** 24] * 12
        row, looks = [(at * 7 % 33, -1) for at in range(500)], [(at, at % 12, 0, 10 ** 25) for at in range(500)]
        kind, ways = stories.story(house, begin, (row, looks))
        self.assertEqual(kind, "story")
        self.assertIs(stories.story_right(house, begin, (row, looks), ways), True)
        self.assertIs(stories.paper_right(house, begin, (row, looks), ("many", [(11, 1, 500)])), False)
        self.assertEqual(moments.lot_now(house, begin, (row, looks), list(range(12))), (12 * 10 ** 24,) * 2)
        self.assertEqual(moments.room_at(house, begin, (row, looks), 1, 1), (10 ** 24 - 1, 10 ** 24 + 1))
        self.assertEqual(moments.sure(house, begin, (row, looks)), [-1] * 500)
        beyond = hall.Hall(house, begin)
        self.assertEqual([beyond.bead(door) for door, _ in row[:250]], list(range(250)))
        self.assertEqual([beyond.look(1, 0, 10 ** 25) for _ in range(80)], list(range(80)))
        self.assertEqual([beyond.mark() for _ in range(450)], list(range(450)))
        told = sessions.session(house, begin, "bead 32\n" * 300 + "lot 0")
        self.assertEqual(told, "ok\n" * 300 + f"{10 ** 24} {10 ** 24}")

    def test_a_house_of_eleven_rooms_is_written_but_not_read(self):
        text = houses.written((11, [(10, 0)]))
        self.assertEqual(text, "rooms 11\ndoor 10 0")
        self.assertRaises(NoText, houses.read, text)
