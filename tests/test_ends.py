"""Point 12, and 3 as far as it speaks of ends: all possible ends, and how one is led from one to another."""

import itertools
import random

from bothdoors.counted import greatest, least, paper_of, shut
from bothdoors.ends import ends, led
from bothdoors.errors import NoEnd

from tests.asking import Asking
from tests.plain import possible_ends, split_ends, split_exists
from tests.small import HUGE, chance_case, chance_doors, near_ends, small_cases

LINE = (3, [(0, 1), (1, 2)])
ALL_FOUR = (4, [(0, 1), (2, 0), (0, 3), (1, 2), (3, 1), (2, 3)])


def known(house, begin, counts):
    return {"house": house, "begin": begin, "counts": counts}


def many_ends(rooms):
    """(house, begin, counts) with many ends, counts coming to forty at most."""
    chance = random.Random(rooms)
    for _ in range(12):
        doors = chance_doors(chance, rooms, chance.randint(rooms - 1, rooms + 2))
        counts = [chance.randint(0, 40 // len(doors)) for _ in doors]
        counts[0] += max(0, chance.choice((0, 40)) - sum(counts)) // 4
        yield (rooms, doors), [chance.choice((0, 1, 2, 3, 9)) for _ in range(rooms)], counts


class Ends(Asking):

    def ask(self, house, begin, counts, wanted):
        self.same(self.told(ends, **known(house, begin, counts)), wanted)

    def test_rising(self):
        self.ask((2, [(0, 1)]), [1, 0], [1], [[0, 1]])
        self.ask((2, [(0, 1)]), [1, 2], [3], [[0, 3], [2, 1]])
        self.ask((2, [(1, 0)]), [1, 2], [2], [[1, 2], [3, 0]])
        self.ask((2, [(0, 1)]), [11, 1], [4], [[7, 5], [9, 3], [11, 1]])
        self.ask(LINE, [4, 0, 0], [2, 2], [[2, 0, 2], [2, 2, 0], [4, 0, 0]])
        self.ask(LINE, [0, 2, 0], [1, 1], [[1, 0, 1]])
        self.ask((2, [(0, 1), (1, 0)]), [9, 1], [1, 2], [[6, 4], [8, 2], [10, 0]])

    def test_no_goings(self):
        for house, begin in (((1, []), [0]), ((1, []), [HUGE]), ((3, []), [1, 0, 2]), (LINE, [0, 0, 0]),
                             (ALL_FOUR, [HUGE, 0, 1, HUGE - 1])):
            self.ask(house, begin, [0] * len(house[1]), [list(begin)])

    def test_none(self):
        star = (4, [(0, 1), (2, 0), (0, 3)])
        for house, begin, counts in (((2, [(0, 1)]), [0, 0], [2]), ((2, [(0, 1)]), [0, 0], [1]),
                                     (star, [1, 0, 0, 0], [1, 1, 1]), (star, [0, 0, 2, 0], [3, 3, 5]),
                                     ((4, [(0, 1), (3, 2)]), [0, 1, 0, 0], [1, 1])):
            self.ask(house, begin, counts, [])

    def test_folk_of_twenty_figures(self):
        self.ask((2, [(0, 1)]), [HUGE, HUGE], [2], [[HUGE - 2, HUGE + 2], [HUGE, HUGE], [HUGE + 2, HUGE - 2]])
        self.ask(LINE, [HUGE, 0, 1], [3, 1], [[HUGE - 3, 2, 2], [HUGE - 3, 4, 0], [HUGE - 1, 0, 2], [HUGE - 1, 2, 0],
                                              [HUGE + 1, 0, 0]])

    def test_just_those_to_which_goings_of_small_houses_lead(self):
        many = {True: 0, False: 0}
        for at, (house, begin, counts) in enumerate(small_cases()):
            wanted = possible_ends(house, begin, counts)
            many[len(wanted) > 1] += 1
            told = self.told(ends, **known(house, begin, counts)) if at % 5 == 0 else ends(house, begin, counts)
            self.same(told, wanted)
            self.assertEqual(not told, shut(house, begin, counts) is not None)
        self.assertGreater(min(many.values()), 500)

    def test_just_those_to_which_goings_by_more_doors_lead(self):
        chance = random.Random(21)
        most = 0
        for _ in range(60):
            house, begin, counts = chance_case(chance, 5, 6, 3, 3)
            wanted = possible_ends(house, begin, counts)
            most = max(most, len(wanted))
            self.ask(house, begin, counts, wanted)
        self.assertGreater(most, 20)

    def test_just_those_that_splits_make(self):
        most = 0
        for rooms in (2, 3, 4, 5, 7, 10):
            for house, begin, counts in many_ends(rooms):
                wanted = split_ends(house, begin, counts)
                most = max(most, len(wanted))
                self.same(ends(house, begin, counts), wanted)
        self.assertGreater(most, 500)

    def test_three_thousand_ends(self):
        for begin, counts in (([40] * 4, [5, 6, 6, 6, 6, 6]), ([9] * 4, [6, 7, 7, 6, 7, 7]), ([HUGE] * 4, [6] * 6)):
            wanted = split_ends(ALL_FOUR, begin, counts)
            self.assertGreater(len(wanted), 1000)
            self.same(ends(ALL_FOUR, begin, counts), wanted)

    def test_few_folk_in_ten_rooms_with_twenty_four_doors(self):
        chance = random.Random(22)
        some = 0
        for at in range(9):
            house = (10, chance_doors(chance, 10, 24))
            counts = [chance.choice((1, 1, 2, 2)) for _ in house[1]]
            odd = [sum(counts[door] for door, two in enumerate(house[1]) if room in two) % 2 for room in range(10)]
            # At first one is in each room that met an odd number, so that all can have even ones; others are in pairs.
            begin = list(odd)
            begin[at] += 2
            told = self.told(ends, **known(house, begin, counts))
            free = [[2 * pairs.count(room) for room in range(10)] for pairs in
                    itertools.combinations_with_replacement(range(10), sum(begin) // 2)]
            self.assertEqual(told, sorted(end for end in free if split_exists(house, begin, counts, end)))
            some += len(told)
        self.assertGreater(some, 2000)

    def test_the_numbers_of_a_lot_go_from_its_least_to_its_greatest(self):
        for house, begin, counts in many_ends(5):
            told = ends(house, begin, counts)
            for lot in ([0], [4], [1, 3], [0, 2, 4]) if told else ():
                had = {sum(end[room] for room in lot) for end in told}
                low, high = least(house, begin, counts, lot)[0], greatest(house, begin, counts, lot)[0]
                self.assertEqual(sorted(had), list(range(low, high + 1, 2)))

    def test_from_each_end_the_beginning_is_one(self):
        for house, begin, counts in list(small_cases())[::17]:
            for end in ends(house, begin, counts):
                self.assertIn(begin, ends(house, end, counts))

    def test_what_is_handed_in_is_taken_as_it_is_now(self):
        house, begin, counts = (2, [(0, 1)]), [1, 0], [1]
        self.assertEqual(ends(house, begin, counts), [[0, 1]])
        counts[0] = 2
        self.assertEqual(ends(house, begin, counts), [[1, 0]])
        begin[1] = 2
        self.assertEqual(ends(house, begin, counts), [[1, 2], [3, 0]])
        begin[:] = [0, 0]
        self.assertEqual(ends(house, begin, counts), [])


class Led(Asking):

    def is_led(self, told, end, other, possible):
        """That this leads from the one to the other, two folk at a time, and in as few steps as can be."""
        self.assertIs(type(told), list)
        for numbers in told:
            self.assertIs(type(numbers), list)
            self.assertTrue(all(type(number) is int for number in numbers))
            self.assertTrue(possible(numbers), numbers)
        self.assertEqual((told[0], told[-1]), (end, other))
        for ahead, behind in zip(told, told[1:]):
            moved = [now - then for then, now in zip(ahead, behind)]
            self.assertEqual(sorted(move for move in moved if move), [-2, 2])
        self.assertEqual(4 * (len(told) - 1), sum(abs(one - two) for one, two in zip(end, other)))

    def ask(self, house, begin, counts, end, other, possible):
        told = self.told(led, **known(house, begin, counts), end=end, other=other)
        self.is_led(told, end, other, possible)

    def test_where_there_is_but_one_way(self):
        house, begin, counts = (2, [(0, 1)]), [11, 1], [4]
        for end, other, wanted in (([7, 5], [11, 1], [[7, 5], [9, 3], [11, 1]]), ([9, 3], [7, 5], [[9, 3], [7, 5]]),
                                   ([11, 1], [7, 5], [[11, 1], [9, 3], [7, 5]]), ([9, 3], [9, 3], [[9, 3]])):
            self.same(self.told(led, **known(house, begin, counts), end=end, other=other), wanted)

    def test_from_an_end_to_itself(self):
        for house, begin, counts in (((1, []), [0], []), ((1, []), [HUGE], []), (LINE, [0, 0, 0], [0, 0]),
                                     (LINE, [4, 0, 0], [2, 2]), (LINE, [HUGE, 0, 0], [2, 2])):
            told = self.told(led, **known(house, begin, counts), end=list(begin), other=list(begin))
            self.same(told, [begin])

    def test_folk_of_twenty_figures(self):
        house, begin, counts = LINE, [HUGE, 0, HUGE], [2, 2]
        self.ask(house, begin, counts, [HUGE - 2, 4, HUGE - 2], [HUGE, 0, HUGE],
                 lambda end: paper_of(house, begin, counts, end) is None)

    def test_between_all_ends_of_small_houses(self):
        steps = 0
        for at, (house, begin, counts) in enumerate(small_cases()):
            found = possible_ends(house, begin, counts)
            for end in found:
                for other in found:
                    steps += end != other
                    if at % 20:
                        self.is_led(led(house, begin, counts, end, other), end, other, found.__contains__)
                    else:
                        self.ask(house, begin, counts, end, other, found.__contains__)
        self.assertGreater(steps, 3000)

    def test_between_ends_of_greater_houses(self):
        chance = random.Random(31)
        most = 0
        for rooms in (3, 4, 5, 7, 10):
            for house, begin, counts in many_ends(rooms):
                found = split_ends(house, begin, counts)
                pairs = [(found[0], found[-1]), (found[-1], found[0])] if found else []
                pairs += [(chance.choice(found), chance.choice(found)) for _ in range(6) if found]
                for end, other in pairs:
                    told = led(house, begin, counts, end, other)
                    self.is_led(told, end, other, found.__contains__)
                    most = max(most, len(told))
        self.assertGreater(most, 10)

    def test_all_ends_are_led_to_from_one(self):
        found = split_ends(ALL_FOUR, [9] * 4, [3, 2, 3, 2, 3, 2])
        possible = {tuple(end) for end in found}
        for other in found[::3]:
            told = led(ALL_FOUR, [9] * 4, [3, 2, 3, 2, 3, 2], found[0], other)
            self.is_led(told, found[0], other, lambda end: tuple(end) in possible)

    def test_refused_where_one_is_no_possible_end(self):
        for house, begin, counts in list(small_cases())[::13]:
            found = possible_ends(house, begin, counts)
            others = [end for end in near_ends(house[0], sum(begin)) if end not in found]
            for other in others[::7]:
                asked = known(house, begin, counts)
                self.refused(NoEnd, led, **asked, end=other, other=list(other))
                for end in found[:2]:
                    self.refused(NoEnd, led, **asked, end=end, other=other)
                    self.refused(NoEnd, led, **asked, end=other, other=end)

    def test_refused_for_each_kind_of_paper(self):
        house, begin, counts = (5, [(0, 1), (2, 3), (1, 2), (3, 4)]), [4, 0, 4, 0, 0], [2, 2, 0, 0]
        right = [2, 2, 4, 0, 0]
        self.same(self.told(led, **known(house, begin, counts), end=right, other=right), [right])
        for wrong in ([2, 2, 4, 0, 1], [2, 2, 5, 0, -1], [3, 1, 4, 0, 0], [0, 4, 4, 0, 0], [2, 2, 0, 0, 4],
                      [HUGE, 0, 0, 0, 0], [-HUGE, HUGE, 8, 0, 0], [0, 0, 0, 0, 0]):
            self.refused(NoEnd, led, **known(house, begin, counts), end=right, other=wrong)
            self.refused(NoEnd, led, **known(house, begin, counts), end=wrong, other=right)
        begin = [8, 0, 0, 0, 0]
        self.refused(NoEnd, led, **known(house, begin, counts), end=[6, 2, 0, 0, 0], other=[8, 0, 0, 0, 0])
        self.refused(NoEnd, led, **known(house, begin, counts), end=[8, 0, 0, 0, 0], other=[8, 0, 0, 0, 0])

    def test_what_is_told_is_the_askers_own(self):
        house, begin, counts, end, other = (2, [(0, 1)]), [3, 0], [2], [1, 2], [3, 0]
        for first, last in ((end, other), (end, end), (other, begin), (begin, begin)):
            told = led(house, begin, counts, first, last)
            told[0].append(1)
            told[-1].append(1)
            self.assertEqual((begin, end, other), ([3, 0], [1, 2], [3, 0]))

    def test_what_is_handed_in_is_taken_as_it_is_now(self):
        house, begin, counts, end, other = (2, [(0, 1)]), [3, 0], [2], [1, 2], [3, 0]
        self.assertEqual(led(house, begin, counts, end, other), [[1, 2], [3, 0]])
        end[:] = [3, 0]
        self.assertEqual(led(house, begin, counts, end, other), [[3, 0]])
        counts[0] = 1
        self.refused(NoEnd, led, house=house, begin=begin, counts=counts, end=end, other=other)
