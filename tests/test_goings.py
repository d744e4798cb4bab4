"""Points 6, 7 and 10, and 3 as far as it speaks of goings: rows of goings, and their judge."""

import itertools
import random

from bothdoors.counted import shut
from bothdoors.errors import NoEnd
from bothdoors.goings import fewest, goings, goings_fault

from tests.asking import Asking
from tests.plain import gone, passed_plainly, possible_ends
from tests.small import HUGE, chance_doors, near_ends, small_cases

LINE = (3, [(0, 1), (1, 2)])
ROUND = (3, [(0, 1), (1, 2), (2, 0)])


def known(house, begin, counts, end):
    return {"house": house, "begin": begin, "counts": counts, "end": end}


class Rows(Asking):

    def leads(self, row, house, begin, counts, end):
        """That this is a row of goings that can be gone, one behind the other, and leads to the end."""
        self.assertIs(type(row), list)
        for going in row:
            self.assertIs(type(going), tuple)
            self.assertEqual([type(part) for part in going], [int, int])
            self.assertIn(going[0], range(len(house[1])))
            self.assertIn(going[1], (0, 1))
        numbers = gone(house, begin, row)
        self.assertEqual(len(numbers), len(row) + 1, "a room was left that was empty")
        self.assertEqual(numbers[-1], end)
        self.assertEqual(passed_plainly(house, row), counts)

    def ask(self, house, begin, counts, end):
        self.leads(self.told(goings, **known(house, begin, counts, end)), house, begin, counts, end)

    def ask_once(self, house, begin, counts, end):
        """The same, asked but once, where there is much to ask."""
        self.leads(goings(house, begin, counts, end), house, begin, counts, end)


class Goings(Rows):

    def test_where_there_is_but_one_row(self):
        for house, begin, counts, end, row in (
                ((2, [(0, 1)]), [1, 0], [1], [0, 1], [(0, 0)]),
                ((2, [(1, 0)]), [1, 0], [1], [0, 1], [(0, 1)]),
                ((2, [(0, 1)]), [1, 0], [3], [0, 1], [(0, 0), (0, 1), (0, 0)]),
                (LINE, [0, 1, 0], [2, 1], [0, 0, 1], [(0, 1), (0, 0), (1, 0)]),
                (LINE, [0, 1, 0], [1, 2], [1, 0, 0], [(1, 0), (1, 1), (0, 1)]),
                (LINE, [0, 0, 2], [0, 2], [0, 2, 0], [(1, 1), (1, 1)])):
            self.same(self.told(goings, **known(house, begin, counts, end)), row)

    def test_no_goings(self):
        for house, begin in (((1, []), [0]), ((1, []), [HUGE]), ((3, []), [1, 0, 2]), (LINE, [0, 0, 0])):
            self.same(self.told(goings, **known(house, begin, [0] * len(house[1]), list(begin))), [])

    def test_a_way_that_must_be_gone_round_or_there_and_back_first(self):
        # One alone must go into each side room and come back before the door behind which the end lies.
        star = (5, [(0, 1), (0, 2), (3, 0), (4, 3)])
        self.ask(star, [1, 0, 0, 0, 0], [2, 2, 1, 1], [0, 0, 0, 0, 1])
        self.ask(star, [1, 0, 0, 0, 0], [1, 2, 2, 4], [0, 1, 0, 0, 0])
        self.ask(star, [0, 0, 0, 0, 1], [2, 1, 1, 1], [0, 0, 1, 0, 0])
        rings = (6, [(0, 1), (1, 2), (2, 0), (2, 3), (3, 4), (4, 5), (5, 3)])
        self.ask(rings, [0, 0, 1, 0, 0, 0], [1] * 7, [0, 0, 0, 1, 0, 0])
        self.ask(rings, [0, 0, 0, 1, 0, 0], [1, 1, 2, 1, 1, 1, 1], [1, 0, 0, 0, 0, 0])
        self.ask(rings, [0, 1, 0, 0, 0, 0], [1, 1, 1, 2, 1, 1, 1], [0, 1, 0, 0, 0, 0])

    def test_rooms_that_are_empty_till_somebody_comes(self):
        row = (10, [(room, room + 1) for room in range(9)])
        self.ask(row, [1] + [0] * 9, [1] * 9, [0] * 9 + [1])
        self.ask(row, [0] * 9 + [1], [1] * 9, [1] + [0] * 9)
        self.ask(row, [1] + [0] * 9, [2] * 9, [1] + [0] * 9)
        self.ask(row, [0] * 5 + [3] + [0] * 4, [3] * 9, [1, 0, 0, 0, 0, 1, 0, 0, 0, 1])

    def test_several_doors_between_the_same_rooms(self):
        house = (2, [(0, 1), (1, 0), (0, 1)])
        self.ask(house, [1, 0], [1, 1, 1], [0, 1])
        self.ask(house, [0, 2], [1, 2, 3], [0, 2])
        self.ask(house, [0, 2], [1, 2, 3], [2, 0])
        self.ask(house, [5, 0], [2, 2, 1], [0, 5])

    def test_to_each_end_of_small_houses_and_to_none_beside_these(self):
        chance = random.Random(10)
        for at, (house, begin, counts) in enumerate(small_cases()):
            ends = possible_ends(house, begin, counts)
            for end in ends:
                (self.ask_once if at % 5 else self.ask)(house, begin, counts, end)
            others = [end for end in near_ends(house[0], sum(begin)) if end not in ends]
            for end in chance.sample(others, min(len(others), 6)):
                self.refused(NoEnd, goings, **known(house, begin, counts, end))

    def test_refused_for_each_kind_of_paper(self):
        pairs = (5, [(0, 1), (2, 3), (1, 2), (3, 4)])
        for begin, counts, end in (([0, 0, 4, 0, 0], [2, 2, 0, 0], [0, 0, 4, 1, 0]),
                                   ([2, 0, 4, 0, 0], [2, 2, 0, 0], [0, 2, 4, 1, -1]),
                                   ([2, 0, 4, 0, 0], [2, 2, 0, 0], [1, 1, 4, 0, 0]),
                                   ([2, 0, 0, 0, 0], [2, 2, 0, 0], [0, 2, 0, 0, 0]),
                                   ([4, 0, 4, 0, 0], [2, 2, 0, 0], [0, 4, 4, 0, 0])):
            self.refused(NoEnd, goings, **known(pairs, begin, counts, end))
        self.ask(pairs, [4, 0, 4, 0, 0], [2, 2, 0, 0], [2, 2, 2, 2, 0])

    def test_refused_for_ends_of_any_whole_numbers(self):
        house, begin, counts = LINE, [HUGE, 0, 0], [2, 2]
        for end in ([HUGE, 0, 1], [HUGE - 1, 1, 0], [HUGE - 4, 4, 0], [-HUGE, HUGE, HUGE], [0, 0, HUGE], [HUGE] * 3,
                    [HUGE + 2, -2, 0], [HUGE, 2, -2], [0, 0, 0], [-1, -1, -1], [HUGE - 4, 2, 2]):
            self.refused(NoEnd, goings, **known(house, begin, counts, end))
        for end in ([HUGE, 0, 0], [HUGE - 2, 2, 0], [HUGE - 2, 0, 2]):
            self.ask(house, begin, counts, end)

    def test_three_hundred_goings_in_ten_rooms(self):
        chance = random.Random(11)
        asked = 0
        for at in range(24):
            house = (10, chance_doors(chance, 10, chance.choice((9, 14, 24))))
            counts = [0] * len(house[1])
            for _ in range(300):
                counts[min(chance.randrange(len(counts)), chance.randrange(len(counts)))] += 1
            begin = [chance.choice((0, 0, 1, 2)) for _ in range(10)] if at % 3 else fewest(house, counts)
            if at % 4 == 1:
                begin = [chance.choice((HUGE, HUGE - 7)) for _ in range(10)]
            if shut(house, begin, counts) is not None:
                continue
            end = self.end_of_chance(chance, house, begin, counts)
            if end is not None:
                asked += 1
                (self.ask_once if at % 3 else self.ask)(house, begin, counts, end)
        self.assertGreater(asked, 12)

    def end_of_chance(self, chance, house, begin, counts):
        """An end to which goings by chance lead, if they ever pass all doors so often."""
        for _ in range(200):
            numbers, left = list(begin), list(counts)
            while True:
                free = [(door, a, b) for door, ends in enumerate(house[1]) if left[door]
                        for a, b in (ends, ends[::-1]) if numbers[a]]
                if not free:
                    break
                door, out, into = chance.choice(free)
                left[door] -= 1
                numbers[out] -= 1
                numbers[into] += 1
            if not any(left):
                return numbers
        return None

    def test_one_alone_through_three_hundred_doors(self):
        ring = (10, [(room, (room + 1) % 10) for room in range(10)])
        one = [1] + [0] * 9
        self.ask(ring, one, [30] * 10, one)
        self.ask(ring, one, [31, 31, 31] + [30] * 7, [0, 0, 0, 1] + [0] * 6)
        row = (10, [(room, room + 1) for room in range(9)])
        self.ask(row, one, [32] * 9, one)
        self.ask(row, one, [33] * 9, [0] * 9 + [1])

    def test_what_is_handed_in_is_taken_as_it_is_now(self):
        house, begin, counts, end = (2, [(0, 1)]), [1, 0], [1], [0, 1]
        self.assertEqual(goings(house, begin, counts, end), [(0, 0)])
        counts[0] = 2
        self.refused(NoEnd, goings, **known(house, begin, counts, end))
        end[:] = [1, 0]
        self.assertEqual(goings(house, begin, counts, end), [(0, 0), (0, 1)])
        begin[:], end[:] = [0, 1], [0, 1]
        self.assertEqual(goings(house, begin, counts, end), [(0, 1), (0, 0)])
        house[1][0] = (1, 0)
        self.assertEqual(goings(house, begin, counts, end), [(0, 0), (0, 1)])


class Judge(Rows):

    def fault(self, house, begin, counts, end, row):
        return self.told(goings_fault, **known(house, begin, counts, end), row=row)

    def test_none_for_rows_that_lead_to_the_end(self):
        for house, begin, counts, end, row in (
                ((1, []), [0], [], [0], []),
                ((2, [(0, 1)]), [1, 0], [1], [0, 1], [(0, 0)]),
                ((2, [(1, 0)]), [1, 0], [1], [0, 1], [(0, 1)]),
                (ROUND, [1, 0, 0], [1, 1, 1], [1, 0, 0], [(0, 0), (1, 0), (2, 0)]),
                (ROUND, [1, 0, 0], [1, 1, 1], [1, 0, 0], [(2, 1), (1, 1), (0, 1)]),
                (LINE, [HUGE, 0, 0], [2, 1], [HUGE - 2, 1, 1], [(0, 0), (1, 0), (0, 0)])):
            self.assertIsNone(self.fault(house, begin, counts, end, row))

    def test_no_such_door_or_way(self):
        for going in ((2, 0), (-1, 0), (-2, 0), (-3, 1), (3, 1), (0, 2), (0, -1), (1, 3), (1, -2), (HUGE, 0),
                      (-HUGE, 1), (0, HUGE), (0, -HUGE), (2, 2), (-1, -1), (2 ** 64, 0), (1, 2 ** 64)):
            for at in range(4):
                row = [(0, 0), (1, 0), (1, 1)]
                row.insert(at, going)
                self.same(self.fault(LINE, [1, 0, 0], [1, 2], [0, 1, 0], row), ("way", at))
                self.same(self.fault(LINE, [1, 0, 0], [1, 2], [0, 1, 0], row + [(5, 5)]), ("way", at))
        self.same(self.fault((1, []), [1], [], [1], [(0, 0)]), ("way", 0))

    def test_a_room_that_is_empty_is_left(self):
        for begin, row, at in (([0, 0, 0], [(0, 0), (1, 0), (1, 1)], 0), ([1, 0, 0], [(0, 0), (0, 0), (1, 1)], 1),
                               ([1, 0, 0], [(0, 0), (1, 0), (0, 1)], 2), ([0, 1, 0], [(0, 1), (0, 0), (1, 1)], 2),
                               ([1, 0, 0], [(1, 0), (0, 0), (1, 1)], 0), ([2, 0, 0], [(0, 0), (1, 1), (1, 1)], 1)):
            self.same(self.fault(LINE, begin, [1, 2], [0, 1, 0], row), ("empty", at))
        # Behind the first empty room another one would be empty, too.
        self.same(self.fault(LINE, [1, 0, 0], [1, 2], [0, 1, 0], [(0, 0), (1, 1), (0, 0), (1, 1)]), ("empty", 1))

    def test_a_door_that_is_passed_too_often_or_too_seldom(self):
        row = [(0, 0), (1, 0), (1, 1)]
        for counts, door in (([0, 2], 0), ([2, 2], 0), ([1, 1], 1), ([1, 3], 1), ([1, 0], 1), ([0, 0], 0), ([2, 3], 0),
                             ([1, HUGE], 1), ([HUGE, HUGE], 0)):
            self.same(self.fault(LINE, [1, 0, 0], counts, [0, 1, 0], row), ("count", door))
        self.same(self.fault(LINE, [1, 0, 0], [0, 1], [1, 0, 0], []), ("count", 1))

    def test_another_end(self):
        row = [(0, 0), (1, 0), (1, 1)]
        for end, room in (([1, 0, 0], 0), ([0, 0, 1], 1), ([0, 1, 1], 2), ([0, 2, 0], 1), ([0, 1, -1], 2),
                          ([-1, 1, 1], 0), ([0, 0, 0], 1), ([HUGE, 1, 0], 0), ([0, 1, -HUGE], 2)):
            self.same(self.fault(LINE, [1, 0, 0], [1, 2], end, row), ("end", room))
        self.same(self.fault((1, []), [HUGE], [], [HUGE - 1], []), ("end", 0))

    def test_the_first_kind_goes_first_whatever_its_place(self):
        begin, counts, end = [1, 0, 0], [1, 1], [5, 5, 5]
        self.same(self.fault(LINE, begin, counts, end, [(1, 0), (0, 0), (0, 0), (0, 2)]), ("way", 3))
        self.same(self.fault(LINE, begin, counts, end, [(1, 0), (0, 0), (0, 0), (2, 0)]), ("way", 3))
        self.same(self.fault(LINE, begin, counts, end, [(0, 0), (0, 1), (0, 0), (0, 0)]), ("empty", 3))
        self.same(self.fault(LINE, begin, counts, end, [(0, 0), (0, 1), (0, 0), (0, 1)]), ("count", 0))
        self.same(self.fault(LINE, begin, counts, end, [(0, 0)]), ("count", 1))
        self.same(self.fault(LINE, begin, counts, end, [(0, 0), (1, 0)]), ("end", 0))
        self.assertIsNone(self.fault(LINE, begin, counts, [0, 0, 1], [(0, 0), (1, 0)]))

    def test_rows_of_four_hundred(self):
        row = [(0, 0), (0, 1)] * 200
        house, begin, end = (2, [(0, 1)]), [1, 0], [1, 0]
        self.assertIsNone(self.fault(house, begin, [400], end, row))
        self.same(self.fault(house, begin, [399], end, row), ("count", 0))
        self.same(self.fault(house, begin, [400], end, row[:-1] + [(0, 0)]), ("empty", 399))
        self.same(self.fault(house, begin, [400], end, row[:-1] + [(0, 2)]), ("way", 399))
        self.same(self.fault(house, [HUGE, 0], [HUGE], [HUGE, 0], row), ("count", 0))

    def test_all_short_rows_of_small_houses(self):
        some = [(door, way) for door in (-1, 0, 1, 2) for way in (-1, 0, 1, 2)]
        some = [going for going in some if going[0] in (0, 1) and going[1] in (0, 1)] * 3 + some
        chance = random.Random(12)
        kinds = {None: 0, "way": 0, "empty": 0, "count": 0, "end": 0}
        for house, begin, counts in list(small_cases())[::4]:
            for end in possible_ends(house, begin, counts)[:2] or [begin]:
                rows = [[chance.choice(some) for _ in range(sum(counts))] for _ in range(4)]
                rows += [[(chance.randrange(len(house[1])), chance.choice((0, 1))) for _ in range(sum(counts))]
                         for _ in range(4) if house[1]]
                if end in possible_ends(house, begin, counts):
                    rows.append(goings(house, begin, counts, end))
                for row in rows:
                    wanted = self.plainly(house, begin, counts, end, row)
                    self.same(goings_fault(house, begin, counts, end, row), wanted)
                    kinds[wanted and wanted[0]] += 1
        self.assertGreater(min(kinds.values()), 20, kinds)

    def plainly(self, house, begin, counts, end, row):
        """The fault by looking for all faults of a kind, kind by kind."""
        bad = [at for at, (door, way) in enumerate(row) if (door, way) not in
               itertools.product(range(len(house[1])), (0, 1))]
        if bad:
            return ("way", min(bad))
        numbers = gone(house, begin, row)
        if len(numbers) <= len(row):
            return ("empty", len(numbers) - 1)
        passed = passed_plainly(house, row)
        differing = [door for door in range(len(counts)) if passed[door] != counts[door]]
        if differing:
            return ("count", min(differing))
        other = [room for room in range(house[0]) if numbers[-1][room] != end[room]]
        return ("end", min(other)) if other else None

    def test_each_row_of_goings_of_small_houses_is_judged_right(self):
        judged = 0
        for house, begin, counts in list(small_cases())[::7]:
            if sum(counts) > 4:
                continue
            ends = possible_ends(house, begin, counts)
            going = list(itertools.product(range(len(house[1])), (0, 1)))
            led_to = []
            for row in itertools.product(going, repeat=sum(counts)):
                right = [end for end in ends + [[room + 2 for room in begin]]
                         if goings_fault(house, begin, counts, end, list(row)) is None]
                numbers = gone(house, begin, row)
                if len(numbers) > len(row) and passed_plainly(house, row) == counts:
                    self.assertEqual(right, [numbers[-1]])
                    led_to.append(numbers[-1])
                else:
                    self.assertEqual(right, [])
                judged += 1
            self.assertTrue(all(end in led_to for end in ends))
        self.assertGreater(judged, 1000)

    def test_a_row_that_changed_is_judged_as_it_is_now(self):
        house, begin, counts, end, row = (2, [(0, 1)]), [1, 0], [1], [0, 1], []
        self.assertEqual(goings_fault(house, begin, counts, end, row), ("count", 0))
        row.append((0, 0))
        self.assertIsNone(goings_fault(house, begin, counts, end, row))
        row[0] = (0, 1)
        self.assertEqual(goings_fault(house, begin, counts, end, row), ("empty", 0))


class Backwards(Rows):

    def test_a_row_read_backwards_leads_back(self):
        for house, begin, counts in list(small_cases())[::9]:
            for end in possible_ends(house, begin, counts):
                row = goings(house, begin, counts, end)
                back = [(door, 1 - way) for door, way in reversed(row)]
                self.leads(back, house, end, counts, begin)
                self.assertIsNone(goings_fault(house, end, counts, begin, back))
