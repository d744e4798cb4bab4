"""Point 3 over the whole program: what its parts tell of the same thing agrees."""

import itertools
import random

from bothdoors.counted import greatest, least, paper_of
from bothdoors.ends import ends
from bothdoors.errors import Barred
from bothdoors.goings import goings
from bothdoors.hall import Hall
from bothdoors.moments import lot_now, room_at, sure
from bothdoors.stories import story, story_right
from bothdoors.tapes import tape_of, turned

from tests.asking import Asking
from tests.plain import all_lots, gone
from tests.plain_tapes import all_stories, chance_tape, gone_tape, spoiled_tape
from tests.small import HUGE, chance_doors, small_cases


def passed(house, row):
    """How often the beads of the row fell at each door."""
    return [sum(1 for door, _ in row if door == asked) for asked in range(len(house[1]))]


def end_of(house, begin, row, ways):
    return gone(house, begin, [(door, way) for (door, _), way in zip(row, ways)])[-1]


def looks_for(moment, numbers):
    return [(moment, room, number, number) for room, number in enumerate(numbers)]


class Turned(Asking):

    def test_rooms_and_sure_ways_of_the_turned_tape(self):
        chance = random.Random(121)
        for _ in range(150):
            rooms, folk = chance.choice((2, 3, 5, 10)), chance.choice((1, 4, HUGE))
            house, begin, (row, looks) = gone_tape(chance, rooms, 12, folk, chance.choice((1, 8, 40)),
                                                   chance.choice((0, 3, 12)), seen=0.3)
            now = len(row)
            end = end_of(house, begin, row, story(house, begin, (row, looks))[1])
            # With both ends held, all stories are those of the turned tape turned.
            tape = (row, looks + looks_for(0, begin) + looks_for(now, end))
            back = turned(tape)
            for moment in {0, now, now // 2, chance.randint(0, now)}:
                for room in range(house[0]):
                    self.assertEqual(room_at(house, end, back, now - moment, room),
                                     room_at(house, begin, tape, moment, room))
            ways = {0: 1, 1: 0, -1: -1}
            self.assertEqual(sure(house, end, back), [ways[way] for way in sure(house, begin, tape)][::-1])
            told = story(house, end, back)[1]
            self.assertIs(story_right(house, begin, tape, [1 - way for way in told[::-1]]), True)

    def test_no_story_the_one_way_and_none_the_other(self):
        chance, met = random.Random(122), {"story": 0, "paper": 0}
        for _ in range(300):
            house, begin, (row, looks) = chance_tape(chance, 3, 6, 2, 2)
            end = [chance.randint(0, 3) for _ in range(house[0])]
            stories = [ways for ways, numbers in all_stories(house, begin, (row, looks)) if numbers[-1] == end]
            if chance.random() < 0.5:
                stories = list(all_stories(house, begin, (row, looks)))
                end = chance.choice(stories)[1][-1] if stories else end
            tape = (row, looks + looks_for(0, begin) + looks_for(len(row), end))
            kind = story(house, begin, tape)[0]
            met[kind] += 1
            self.assertEqual(kind, "story" if stories else "paper")
            self.assertEqual(story(house, end, turned(tape))[0], kind)
        self.assertGreater(min(met.values()), 50)


class Books(Asking):

    def test_books_told_to_a_hall_by_time(self):
        chance, barred = random.Random(123), 0
        for _ in range(60):
            house, begin, (row, looks) = chance.choice((gone_tape, spoiled_tape))(chance, 4, 6, 2, 30, 12)
            rows = [(10 * at - 150, *bead) for at, bead in enumerate(row)]
            times = chance.sample(range(1, 10), 9)
            # Looks at one moment between two beads: at times of their own, in the order that these have.
            rows += [(10 * (look[0] - 1) - 150 + times[at % 9], *look[1:]) for at, look in enumerate(looks)]
            books = [[] for _ in range(3)]
            for one in chance.sample(rows, len(rows)):
                chance.choice(books).append(one)
            tape = tape_of(books)
            self.assertEqual((tape[0], sorted(tape[1])), (row, sorted(looks)))
            barred += self.told_by_time(house, begin, books, tape)
        self.assertGreater(barred, 10)

    def told_by_time(self, house, begin, books, tape):
        """1 where the hall did not let all by, else 0."""
        hall = Hall(house, begin)
        for one in sorted([one for book in books for one in book], key=lambda one: one[0]):
            try:
                if len(one) == 3:
                    hall.bead(one[1], way=one[2])
                else:
                    hall.look(*one[1:])
            except Barred:
                self.assertEqual(story(house, begin, tape)[0], "paper")
                return 1
        self.assertEqual(hall.tape(), tape)
        self.assertEqual(story(house, begin, tape)[0], "story")
        self.assertEqual(hall.sure(), sure(house, begin, tape))
        self.assertEqual([hall.room(room, 15) for room in range(4)],
                         [room_at(house, begin, tape, 15, room) for room in range(4)])
        return 0


class SideBySide(Asking):

    def test_two_houses_side_by_side(self):
        chance, met = random.Random(124), {"story": 0, "paper": 0}
        for _ in range(120):
            make = chance.choice((gone_tape, spoiled_tape))
            first, second = [make(chance, rooms, 6, 2, beads, 6) for rooms, beads in ((3, 15), (4, 20))]
            told = [story(*one)[0] for one in (first, second)]
            which = chance.sample([0] * 15 + [1] * 20, 35)
            house, begin, tape, moments = self.beside(first, second, which)
            kind = story(house, begin, tape)[0]
            met[kind] += 1
            self.assertEqual(kind, "story" if told == ["story", "story"] else "paper")
            if kind == "story":
                self.as_each(first, second, which, (house, begin, tape), moments)
        self.assertGreater(min(met.values()), 20)

    def beside(self, first, second, which):
        """One house of both; behind how many beads of both each one's moments begin."""
        (rooms, doors), begin, (_, looks) = first
        (more, others), begin_too, (_, looks_too) = second
        both = [iter(first[2][0]), iter((door + len(doors), way) for door, way in second[2][0])]
        moments = [[0] + [at + 1 for at, of in enumerate(which) if of == one] for one in (0, 1)]
        seen = [(moments[0][moment], *look) for moment, *look in looks]
        seen += [(moments[1][moment], room + rooms, *bounds) for moment, room, *bounds in looks_too]
        house = (rooms + more, doors + [(a + rooms, b + rooms) for a, b in others])
        return house, begin + begin_too, ([next(both[of]) for of in which], seen), moments

    def as_each(self, first, second, which, whole, moments):
        ways = [iter(sure(*one)) for one in (first, second)]
        self.assertEqual(sure(*whole), [next(ways[of]) for of in which])
        ahead = 0
        for one, at in ((first, moments[0]), (second, moments[1])):
            for room in range(one[0][0]):
                for moment in (0, len(at) // 2, len(at) - 1):
                    self.assertEqual(room_at(*whole, at[moment], room + ahead), room_at(*one, moment, room))
            ahead = one[0][0]
        spans = [lot_now(*first, [0, 2]), lot_now(*second, [1, 2])]
        self.assertEqual(lot_now(*whole, [0, 2, 4, 5]), tuple(map(sum, zip(*spans))))


class EitherWay(Asking):

    def test_a_way_seen_the_one_way_and_the_other(self):
        chance, met = random.Random(125), {1: 0, 2: 0}
        for _ in range(60):
            house, begin, (row, looks) = gone_tape(chance, chance.choice((2, 4, 10)), 12, chance.choice((0, 2, HUGE)),
                                                   25, chance.choice((0, 4, 12)), seen=0.3, slack=1)
            ways = sure(house, begin, (row, looks))
            for bead in chance.sample([at for at, (_, way) in enumerate(row) if way == -1], 3):
                seen = [(row[:bead] + [(row[bead][0], way)] + row[bead + 1:], looks) for way in (0, 1)]
                possible = [way for way in (0, 1) if story(house, begin, seen[way])[0] == "story"]
                met[len(possible)] += 1
                self.assertEqual(ways[bead], possible[0] if len(possible) == 1 else -1)
                for room, moment in itertools.product(range(house[0]), (bead, bead + 1, 25)):
                    spans = [room_at(house, begin, seen[way], moment, room) for way in possible]
                    self.assertEqual(room_at(house, begin, (row, looks), moment, room),
                                     (min(low for low, _ in spans), max(high for _, high in spans)))
        self.assertGreater(min(met.values()), 30)


class CountsAndTapes(Asking):

    def test_a_row_of_goings_is_a_story_of_its_tape(self):
        chance, met = random.Random(126), 0
        for _ in range(200):
            house = (4, chance_doors(chance, 4, 6))
            begin, counts = [chance.randint(0, 2) for _ in range(4)], [chance.randint(0, 4) for _ in range(6)]
            for end in ends(house, begin, counts)[:5]:
                met += 1
                row = goings(house, begin, counts, end)
                tape = ([(door, -1) for door, _ in row], [])
                self.assertIs(story_right(house, begin, tape, [way for _, way in row]), True)
                self.assertEqual(story(house, begin, (tape[0], looks_for(len(row), end)))[0], "story")
        self.assertGreater(met, 200)

    def test_what_a_tape_lets_be_its_counts_let_be(self):
        chance = random.Random(127)
        for _ in range(80):
            house, begin, (row, looks) = gone_tape(chance, chance.choice((3, 5)), 6, chance.choice((1, 3, HUGE)),
                                                   chance.choice((5, 40, 200)), chance.choice((0, 5)), slack=3)
            counts = passed(house, row)
            end = end_of(house, begin, row, story(house, begin, (row, looks))[1])
            self.assertIsNone(paper_of(house, begin, counts, end))
            for lot in all_lots(house[0]):
                low, high = lot_now(house, begin, (row, looks), lot)
                self.assertLessEqual(least(house, begin, counts, lot)[0], low)
                self.assertLessEqual(high, greatest(house, begin, counts, lot)[0])

    def test_all_orders_of_beads_together_are_what_counts_let_be(self):
        asked = 0
        for house, begin, counts in small_cases():
            if sum(counts) > 4 or sum(begin) > 3 or house[0] > 3:
                continue
            asked += 1
            beads = [door for door, count in enumerate(counts) for _ in range(count)]
            found, spans = set(), []
            for order in set(itertools.permutations(beads)):
                tape = ([(door, -1) for door in order], [])
                if story(house, begin, tape)[0] == "story":
                    spans.append(lot_now(house, begin, tape, [0]))
                    hall = self.hall_of(house, begin, order)
                    found |= {tuple(end) for end in ends(house, begin, counts) if hall.end(end)[0] == "story"}
            self.assertEqual(sorted(map(list, found)), ends(house, begin, counts))
            if spans:
                self.assertEqual(min(low for low, _ in spans), least(house, begin, counts, [0])[0])
                self.assertEqual(max(high for _, high in spans), greatest(house, begin, counts, [0])[0])
        self.assertGreater(asked, 500)

    def hall_of(self, house, begin, doors):
        hall = Hall(house, begin)
        for door in doors:
            hall.bead(door)
        return hall
