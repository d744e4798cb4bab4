"""Points 13 and 15, and 3 as far as it speaks of tapes: a story where there is one, else a paper that holds."""

import itertools
import random
from collections import Counter

from bothdoors.stories import paper_right, story, story_right

from tests.asking import Asking
from tests.plain import gone
from tests.plain_tapes import Plain, adds_up, all_stories, chance_tape, goes_along, gone_tape, look_papers, spoiled_tape
from tests.small import HUGE, chance_doors

PAIR = (2, [(0, 1)])
LINE = (3, [(0, 1), (1, 2)])
STAR = (4, [(0, 1), (2, 0), (0, 3)])
ROW = [(0, -1), (1, 0), (1, -1), (0, -1)]


class Telling(Asking):

    def ask(self, house, begin, tape, wholly=True):
        """What story tells, held against plain going along and plain adding up; told is ("story" or a paper's kind)."""
        asked = {"house": house, "begin": begin, "tape": tape}
        told = self.told(story, **asked) if wholly else story(**asked)
        self.assertIs(type(told), tuple)
        kind, what = told
        if kind == "story":
            self.assertEqual([type(way) for way in what], [int] * len(tape[0]))
            self.assertIs(type(what), list)
            self.assertTrue(goes_along(house, begin, tape, what), (house, begin, tape, what))
            self.assertIs(story_right(house, begin, tape, what), True)
            return kind
        self.assertEqual(kind, "paper")
        self.is_paper(what)
        self.assertTrue(adds_up(house, begin, tape, what), (house, begin, tape, what))
        self.assertIs(paper_right(house, begin, tape, what), True)
        looks = look_papers(house, begin, tape)
        self.assertEqual(what[0] == "look", bool(looks), (house, begin, tape, what))
        if looks:
            self.assertEqual(what, looks[0])
        return what[0]

    def is_paper(self, paper):
        self.assertIs(type(paper), tuple)
        if paper[0] == "look":
            self.assertEqual([type(part) for part in paper], [str, int, int])
            return
        self.assertIn(paper[0], ("many", "few"))
        self.assertEqual([type(part) for part in paper], [str, list])
        for stretch in paper[1]:
            self.assertIs(type(stretch), tuple)
            self.assertEqual([type(part) for part in stretch], [int] * 3)


class ByHand(Telling):

    def test_no_beads(self):
        self.same(self.told(story, house=PAIR, begin=[3, 0], tape=([], [])), ("story", []))
        self.same(self.told(story, house=(1, []), begin=[HUGE], tape=([], [])), ("story", []))
        self.same(self.told(story, house=PAIR, begin=[3, 0], tape=([], [(0, 0, 3, 3), (0, 1, 0, 9)])), ("story", []))

    def test_where_there_is_but_one_story(self):
        for house, begin, tape, ways in (
                (PAIR, [1, 0], ([(0, -1)], []), [0]),
                (PAIR, [0, 1], ([(0, -1)], []), [1]),
                (PAIR, [1, 0], ([(0, -1)] * 4, []), [0, 1, 0, 1]),
                (LINE, [1, 0, 0], ([(0, -1), (1, -1), (1, -1), (0, -1)], []), [0, 0, 1, 1]),
                (LINE, [1, 0, 1], ([(0, -1), (1, -1)], [(2, 2, 0, 0)]), [0, 1]),
                (LINE, [1, 0, 1], ([(0, -1), (1, -1)], [(2, 2, 1, 9), (2, 1, 0, 0)]), [0, 0]),
                (PAIR, [1, 1], ([(0, -1)], [(1, 0, 2, 2)]), [1]),
                (PAIR, [1, 1], ([(0, 0)], []), [0]),
                (PAIR, [2, 0], ([(0, -1)] * 2, [(2, 1, 1, HUGE)]), [0, 0])):
            self.same(self.told(story, house=house, begin=begin, tape=tape), ("story", ways))

    def test_nobody_is_there_to_go(self):
        self.same(self.told(story, house=PAIR, begin=[0, 0], tape=([(0, -1)], [])),
                  ("paper", ("many", [(0, 1, 1), (1, 1, 1)])))
        self.same(self.told(story, house=PAIR, begin=[0, 5], tape=([(0, 0)], [])), ("paper", ("many", [(0, 1, 1)])))
        self.assertEqual(self.ask(PAIR, [1, 0], ([(0, -1), (0, 0)], [])), "many")
        self.assertEqual(self.ask(LINE, [0, 0, 0], ([(1, -1), (0, -1)], [])), "many")

    def test_more_or_fewer_are_left_than_could_be(self):
        for begin, looks, kind in (([2, 0, 4], [(1, 2, 0, 3)], "few"), ([2, 0, 4], [(1, 2, 0, 2)], "few"),
                                   ([2, 0, 0], [(4, 0, 0, 0)], "story"), ([2, 0, 0], [(4, 0, 2, 2)], "story"),
                                   ([6, 0, 0], [(4, 0, 0, 2)], "few"), ([6, 0, 0], [(4, 0, 4, 4)], "story"),
                                   ([HUGE, 0, 0], [(4, 0, 0, 9)], "few"), ([0, 3, 0], [(3, 2, 2, 9)], "story"),
                                   ([0, 2, 0], [(3, 2, 2, 9)], "many"), ([0, 2, 0], [(3, 1, 6, 9)], "look")):
            with self.subTest(begin=begin, looks=looks):
                self.assertEqual(self.ask(LINE, begin, (ROW, looks)), kind)

    def test_two_moments_between_which_the_room_met_no_bead(self):
        for (first, last), kind in ((((1, 1), (3, 3)), "many"), (((3, 3), (1, 1)), "few"),
                                    (((1, 1), (1, 1)), "story"), (((3, 3), (3, 9)), "story"),
                                    (((0, 1), (2, 9)), "many"), (((0, 9), (0, 1)), "story"),
                                    (((2, 9), (0, 1)), "few")):
            with self.subTest(first=first, last=last):
                self.assertEqual(self.ask(LINE, [2, 5, 1], (ROW, [(1, 0, *first), (3, 0, *last)])), kind)
                self.assertEqual(self.ask(LINE, [2, 5, 1], (ROW, [(3, 0, *last), (1, 0, *first)])), kind)

    def test_looks_at_moment_nought(self):
        for look, kind in (((0, 1, 5, 5), "story"), ((0, 1, 0, HUGE), "story"), ((0, 1, 6, 9), "look"),
                           ((0, 1, 0, 4), "look"), ((0, 1, 9, 2), "look"), ((0, 1, -3, -1), "look"),
                           ((0, 1, -3, 5), "story"), ((0, 1, 5, 4), "look"), ((0, 0, 0, 0), "look")):
            with self.subTest(look=look):
                for beads in ([], ROW):
                    self.assertEqual(self.ask(LINE, [2, 5, 0], (beads, [look])), kind)

    def test_looks_below_nought(self):
        for look, kind in (((4, 0, -5, 9), "story"), ((4, 0, -5, -1), "look"), ((4, 0, -HUGE, 0), "story"),
                           ((4, 0, -1, -2), "look"), ((1, 2, -7, -7), "look"), ((1, 2, -1, 0), "story")):
            with self.subTest(look=look):
                self.assertEqual(self.ask(LINE, [2, 2, 0], (ROW, [look])), kind)

    def test_looks_that_are_odd_or_speak_against_one_another(self):
        for looks, kind in (([(1, 0, 2, 2)], "look"), ([(1, 0, 1, 1)], "story"), ([(1, 0, 4, 4)], "look"),
                            ([(1, 0, 0, 1), (1, 0, 3, 9)], "look"), ([(1, 0, 3, 2)], "look"),
                            ([(1, 0, 1, 9), (1, 0, 0, 2)], "story"), ([(1, 0, 2, 9), (1, 0, 0, 2)], "look"),
                            ([(1, 0, 3, 9), (1, 1, 5, 9)], "many"), ([(1, 0, 0, 1), (1, 1, 0, 4)], "few")):
            with self.subTest(looks=looks):
                self.assertEqual(self.ask(LINE, [2, 5, 0], (ROW, looks)), kind)

    def test_the_paper_of_a_look_of_the_least_moment_then_room(self):
        bad = {(0, 1): (0, 1, 9, 9), (0, 2): (0, 2, 1, 1), (1, 0): (1, 0, 4, 4), (1, 2): (1, 2, 1, 1),
               (3, 0): (3, 0, 8, 9), (3, 1): (3, 1, 3, 2), (4, 2): (4, 2, -2, -1)}
        for some in itertools.combinations(bad, 3):
            for order in (some, some[::-1]):
                tape = (ROW, [(2, 1, 0, 99)] + [bad[place] for place in order] + [(2, 0, 0, 99)])
                self.same(self.told(story, house=LINE, begin=[2, 5, 0], tape=tape), ("paper", ("look", *min(some))))

    def test_the_paper_of_a_look_is_told_where_others_hold_ahead_of_it(self):
        # Nobody is there to go at first: the look far behind is told of all the same.
        tape = ([(0, 1), (0, -1), (0, -1)], [(3, 1, 0, 0), (2, 0, 9, 9)])
        self.same(self.told(story, house=PAIR, begin=[0, 0], tape=tape), ("paper", ("look", 2, 0)))

    def test_houses_without_doors_and_rooms_without_beads(self):
        self.same(self.told(story, house=(1, []), begin=[4], tape=([], [(0, 0, 3, 3)])), ("paper", ("look", 0, 0)))
        self.assertEqual(self.ask((4, [(0, 1)]), [1, 0, 7, 0], ([(0, -1)], [(1, 2, 7, 7), (1, 3, 0, 0)])), "story")
        self.assertEqual(self.ask((4, [(0, 1)]), [1, 0, 7, 0], ([(0, -1)], [(1, 2, 0, 6)])), "few")
        self.assertEqual(self.ask((4, [(0, 1)]), [1, 0, 7, 0], ([(0, -1)], [(1, 2, 8, 8)])), "look")

    def test_a_seen_way_is_kept(self):
        for seen in itertools.product((-1, 0, 1), repeat=4):
            kind = self.ask(LINE, [1, 1, 0], ([(door, way) for (door, _), way in zip(ROW, seen)], []))
            self.assertIn(kind, ("story", "many"))


class Small(Telling):

    def test_against_all_ways(self):
        chance, met = random.Random(71), Counter()
        for _ in range(1500):
            house, begin, tape = chance_tape(chance, chance.choice((2, 3, 4)), 7, 4)
            met[self.against_all_ways(house, begin, tape)] += 1
        for kind, least in (("story", 300), ("look", 300), ("many", 150), ("few", 60)):
            self.assertGreater(met[kind], least)

    def against_all_ways(self, house, begin, tape):
        kind = self.ask(house, begin, tape)
        self.assertEqual(kind == "story", any(True for _ in all_stories(house, begin, tape)), (house, begin, tape))
        return kind

    def test_all_tapes_of_two_rooms(self):
        met = Counter()
        for many in range(5):
            for ways in itertools.product((-1, 0, 1), repeat=many):
                for begin in ([0, 0], [1, 0], [1, 1]):
                    for looks in ([], [(many, 0, 0, 0)], [(many, 1, 1, 1)], [(many // 2, 0, 1, 2), (many, 1, 0, 1)]):
                        tape = ([(at % 2, way) for at, way in enumerate(ways)], looks)
                        met[self.against_all_ways((2, [(0, 1), (1, 0)]), begin, tape)] += 1
        self.assertGreater(min(met[kind] for kind in ("story", "look", "many", "few")), 10)

    def test_looks_of_all_kinds_with_numbers_of_twenty_figures(self):
        chance, met = random.Random(72), Counter()
        for _ in range(700):
            house, begin, (row, _) = chance_tape(chance, chance.choice((2, 3)), 6, 0)
            begin = [chance.choice((number, HUGE - number)) for number in begin]
            looks = []
            for _ in range(chance.randint(1, 4)):
                room = chance.randrange(house[0])
                near = begin[room] + chance.randint(-2, 2)
                least = chance.choice((-HUGE, -1, 0, near, near, near - 1))
                most = chance.choice((near, near + 1, near + 2, HUGE))
                looks.append((chance.randint(0, len(row)), room, least, most))
            met[self.against_all_ways(house, begin, (row, looks))] += 1
        self.assertGreater(min(met[kind] for kind in ("story", "look", "many", "few")), 30)

    def test_many_looks_at_few_rooms_and_moments(self):
        chance, met = random.Random(73), Counter()
        for _ in range(500):
            house, begin, tape = gone_tape(chance, 3, 3, 3, 7, 8, 0.1, 1, chance.choice((0, 0, 2)))
            met[self.against_all_ways(house, begin, tape)] += 1
        self.assertGreater(min(met["story"], met["look"]), 100)


class Great(Telling):

    def test_against_all_numbers_that_few_folk_can_have(self):
        chance, met = random.Random(74), Counter()
        for _ in range(300):
            rooms, beads = chance.choice(((3, 60), (4, 40), (5, 30), (10, 12)))
            house, begin, tape = spoiled_tape(chance, rooms, 24, 0, beads, 12)
            kind = self.ask(house, begin, tape, wholly=False)
            met[kind] += 1
            self.assertEqual(kind == "story", Plain(house, begin, tape).possible(), (house, begin, tape))
        self.assertGreater(min(met[kind] for kind in ("story", "look", "many", "few")), 15)

    def test_tapes_that_were_gone_have_stories(self):
        chance = random.Random(75)
        for folk, seen, slack in itertools.product((0, 1, 5, HUGE), (0, 0.3, 1), (0, 3)):
            self.assertEqual(self.ask(*gone_tape(chance, folk=folk, seen=seen, slack=slack)), "story")

    def test_tapes_with_something_wrong(self):
        chance, met, longest, rooms = random.Random(76), Counter(), Counter(), Counter()
        for _ in range(400):
            folk, beads = chance.choice((0, 1, 5, HUGE)), chance.choice((60, 200))
            many = chance.choice((3, 5, 10))
            house, begin, tape = spoiled_tape(chance, many, 24, folk, beads, chance.choice((5, 60)))
            kind = self.ask(house, begin, tape, wholly=False)
            met[kind] += 1
            if kind in ("many", "few"):
                stretches = story(house, begin, tape)[1][1]
                longest[kind] = max(longest[kind], len(stretches))
                rooms[kind] = max(rooms[kind], len({room for room, _, _ in stretches}))
        self.assertGreater(min(met[kind] for kind in ("story", "look", "many", "few")), 15)
        self.assertGreater(min(longest["many"], longest["few"]), 5)
        self.assertGreater(min(rooms["many"], rooms["few"]), 3)

    def test_all_folk_driven_about(self):
        # Each look wants many ways other than those that one would think of first.
        house, begin, row = PAIR, [300, 300], [(0, -1)] * 200
        for looks in ([(200, 0, 500, 500)], [(200, 0, 100, 100)], [(100, 0, 200, 200), (200, 0, 300, 300)],
                      [(moment, 0, 300 + moment, HUGE) for moment in range(0, 200, 4)],
                      [(100, 1, 400, 400), (150, 1, 0, 350), (200, 0, 0, 200)]):
            self.assertEqual(self.ask(house, begin, (row, looks)), "story")
        for looks, kind in (([(200, 0, 502, 502)], "look"), ([(100, 0, 200, 200), (200, 0, 302, 302)], "many"),
                            ([(100, 0, 400, 400), (200, 0, 0, 298)], "few"),
                            ([(moment, 0, 302 - moment, 298 + moment) for moment in range(2, 200, 4)], "story")):
            self.assertEqual(self.ask(house, begin, (row, looks)), kind)

    def test_one_who_goes_about_alone(self):
        chance = random.Random(78)
        house = (10, [(room, (room + 1) % 10) for room in range(10)] + chance_doors(chance, 10, 14))
        for _ in range(20):
            room, row, rooms = 4, [], [4]
            for _ in range(200):
                door = chance.choice([door for door, ends in enumerate(house[1]) if room in ends])
                room = sum(house[1][door]) - room
                row.append((door, -1))
                rooms.append(room)
            begin = [int(room == 4) for room in range(10)]
            self.assertEqual(self.ask(house, begin, (row, [])), "story")
            ways = story(house, begin, (row, []))[1]
            going = [(door, way) for (door, _), way in zip(row, ways)]
            self.assertEqual([numbers.index(1) for numbers in gone(house, begin, going)], rooms)

    def test_told_as_it_is_now(self):
        begin, tape = [1, 0], ([(0, -1)], [])
        self.assertEqual(story(PAIR, begin, tape), ("story", [0]))
        tape[0].append((0, -1))
        self.assertEqual(story(PAIR, begin, tape), ("story", [0, 1]))
        tape[1].append((1, 0, 1, 1))
        self.assertEqual(story(PAIR, begin, tape), ("paper", ("look", 1, 0)))
        begin[0] = 2
        self.assertEqual(story(PAIR, begin, tape)[0], "story")
