"""Point 11: a beginning with the fewest folk by which counts have a possible end."""

import itertools
import random

from bothdoors.counted import shut
from bothdoors.goings import fewest, goings

from tests.asking import Asking
from tests.plain import gone, met_plainly, parts_plainly, possible_ends, split_ends
from tests.small import HUGE, big_cases, chance_case, small_cases

LINE = (3, [(0, 1), (1, 2)])
ROUND = (3, [(0, 1), (1, 2), (2, 0)])


class Fewest(Asking):

    def ask(self, house, counts, folk):
        """That so many are the fewest, and that the beginning told is one."""
        told = self.told(fewest, house=house, counts=counts)
        self.assertIs(type(told), list)
        self.assertEqual([type(number) for number in told], [int] * house[0])
        self.assertGreaterEqual(min(told), 0)
        self.assertEqual(sum(told), folk)
        self.assertIsNone(shut(house, told, counts))
        return told

    def formula(self, house, counts):
        """What point 11 says in brackets."""
        passed = met_plainly(house, counts)
        odd = [sum(passed[room] % 2 for room in part) for part in parts_plainly(house, counts) if len(part) > 1]
        return sum(max(1, many // 2) for many in odd)

    def test_nobody_where_no_door_was_passed(self):
        for house in ((1, []), (4, []), LINE, ROUND):
            self.same(self.told(fewest, house=house, counts=[0] * len(house[1])), [0] * house[0])

    def test_one_where_at_most_two_rooms_met_an_odd_number(self):
        for house, counts in (((2, [(0, 1)]), [1]), ((2, [(0, 1)]), [2]), ((2, [(0, 1)]), [HUGE]), (LINE, [1, 1]),
                              (ROUND, [1, 1, 1]), (ROUND, [2, 2, 1]), (LINE, [2, 0]), (LINE, [0, 3]),
                              (LINE, [HUGE - 1, HUGE - 1])):
            self.ask(house, counts, 1)
        self.same(self.told(fewest, house=(3, [(1, 2)]), counts=[2])[0], 0)

    def test_one_for_each_two_odd_rooms_of_a_part(self):
        star = (6, [(0, room) for room in range(1, 6)])
        self.ask(star, [1, 1, 1, 1, 1], 3)
        self.ask(star, [1, 1, 1, 1, 0], 2)
        self.ask(star, [3, HUGE, 1, 2, 2], 2)
        self.ask(star, [2, 2, 2, 2, 2], 1)
        self.ask(star, [2, 1, 1, 2, 2], 1)

    def test_parts_each_for_itself(self):
        house = (10, [(0, 1), (2, 3), (4, 5), (5, 6), (5, 7), (8, 9), (1, 2)])
        self.ask(house, [2, 1, 1, 1, 1, 4, 0], 5)
        self.ask(house, [2, 1, 1, 1, 1, 4, 2], 4)
        self.ask(house, [0, 0, 2, 2, 2, 0, 0], 1)

    def test_where_not_any_half_of_the_odd_rooms_will_do(self):
        # Two stars and one going between them: folk of the one can not do the other's goings.
        stars = (8, [(0, 1), (0, 2), (0, 3), (4, 5), (4, 6), (4, 7), (0, 4)])
        self.ask(stars, [1] * 7, 3)
        self.ask(stars, [1] * 6 + [2], 4)
        stars = (10, [(0, 1), (0, 2), (0, 3), (0, 4), (9, 8), (9, 7), (9, 6), (9, 5), (0, 9)])
        self.ask(stars, [1] * 9, 5)
        self.ask(stars, [3, 5, 7, 9, 1, 1, 1, 1, HUGE], 5)

    def test_no_beginning_with_fewer_has_a_possible_end_in_small_houses(self):
        asked = {}
        stars = (8, [(0, 1), (0, 2), (0, 3), (4, 5), (4, 6), (4, 7), (0, 4)])
        for house, _, counts in [*small_cases(), (stars, [], [1] * 7), (stars, [], [1, 1, 1, 1, 3, 1, 0])]:
            if str((house, counts)) in asked:
                continue
            asked[str((house, counts))] = folk = sum(fewest(house, counts))
            told = self.ask(house, counts, folk)
            self.assertTrue(possible_ends(house, told, counts))
            self.assertEqual(folk, self.formula(house, counts))
            for begin in itertools.product(range(folk), repeat=house[0]):
                if sum(begin) < folk:
                    self.assertEqual(possible_ends(house, list(begin), counts), [])
        self.assertEqual(set(asked.values()), {0, 1, 2, 3, 4})

    def test_ten_rooms_and_twenty_figures(self):
        seen = set()
        for house, _, counts in [*big_cases(40), *big_cases(60, doors=9), *big_cases(60, count=1),
                                 *big_cases(60, doors=12, count=2)]:
            folk = self.formula(house, counts)
            self.ask(house, counts, folk)
            seen.add(folk)
        self.assertTrue({1, 2, 3, 4} <= seen, seen)

    def test_goings_of_the_fewest(self):
        chance = random.Random(17)
        for _ in range(60):
            house, _, counts = chance_case(chance, 6, 9, 1, 2)
            begin = self.told(fewest, house=house, counts=counts)
            for end in split_ends(house, begin, counts)[:6]:
                row = goings(house, begin, counts, end)
                self.assertEqual(gone(house, begin, row)[-1], end)

    def test_counts_that_changed_are_taken_as_they_are_now(self):
        counts = [1, 0]
        self.assertEqual(fewest(LINE, counts)[2], 0)
        self.assertEqual(sum(fewest(LINE, counts)), 1)
        counts[0] = 0
        self.assertEqual(fewest(LINE, counts), [0, 0, 0])
