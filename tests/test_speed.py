"""That answers about the largest houses are told in a small part of the time in which plain sums tell them.

The document promises nothing about time, and machines differ: so each is held against plain sums on the same machine.
"""

import time
import unittest

from bothdoors.counted import greatest, least, paper_of, shut

from tests.plain import all_lots, shows

RING = [(room, (room + 1) % 10) for room in range(10)]
SKIPS = [(room, (room + 2) % 10) for room in range(10)]
HOUSE = (10, RING + SKIPS + [(0, 3), (1, 4), (2, 5), (3, 6)])
BEGIN, COUNTS = [40] * 10, [2] * 24


def seconds(function):
    """The least time of some tries, as other work may only lengthen it."""
    tries = []
    for _ in range(7):
        start = time.perf_counter()
        function()
        tries.append(time.perf_counter() - start)
    return min(tries)


class Speed(unittest.TestCase):

    def test_answers_about_ten_rooms_and_twenty_four_doors(self):
        plainly = seconds(lambda: min(shows(HOUSE, BEGIN, COUNTS, [], lot) for lot in all_lots(10)))
        for name, asked in (("greatest", lambda: greatest(HOUSE, BEGIN, COUNTS, [])),
                            ("greatest", lambda: greatest(HOUSE, BEGIN, COUNTS, [0])),
                            ("least", lambda: least(HOUSE, BEGIN, COUNTS, [0])),
                            ("shut", lambda: shut(HOUSE, BEGIN, COUNTS)),
                            ("paper_of", lambda: paper_of(HOUSE, BEGIN, COUNTS, BEGIN))):
            with self.subTest(name):
                self.assertLess(seconds(asked), plainly / 16)

    def test_they_are_the_right_ones(self):
        self.assertEqual(greatest(HOUSE, BEGIN, COUNTS, [])[0], 0)
        self.assertEqual(greatest(HOUSE, BEGIN, COUNTS, [0])[0], 50)
        self.assertEqual(least(HOUSE, BEGIN, COUNTS, [0])[0], 30)
        self.assertIsNone(shut(HOUSE, BEGIN, COUNTS))
        self.assertIsNone(paper_of(HOUSE, BEGIN, COUNTS, BEGIN))
