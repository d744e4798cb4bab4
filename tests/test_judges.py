"""Points 13 and 15: the judges of stories and of papers that there is none."""

import itertools
import random
from collections import Counter

from bothdoors.stories import paper_right, story, story_right

from tests.asking import Asking
from tests.plain_tapes import adds_up, all_stories, chance_tape, goes_along, gone_tape, spoiled_tape
from tests.small import HUGE

PAIR = (2, [(0, 1)])
LINE = (3, [(0, 1), (1, 2)])
ROW = [(0, -1), (1, 0), (1, -1), (0, -1)]


class Judging(Asking):

    def told_right(self, judge, wanted, house, begin, tape, judged):
        named = {"house": house, "begin": begin, "tape": tape, "ways" if judge is story_right else "paper": judged}
        self.assertIs(self.told(judge, **named), wanted, (house, begin, tape, judged))


class Stories(Judging):

    def ask(self, wanted, house, begin, tape, ways):
        self.told_right(story_right, wanted, house, begin, tape, ways)

    def test_a_way_for_each_bead(self):
        self.ask(True, PAIR, [1, 0], ([(0, -1)] * 2, []), [0, 1])
        for ways in ([], [0], [0, 1, 0], [0, 1, 0, 1]):
            self.ask(False, PAIR, [1, 0], ([(0, -1)] * 2, []), ways)
        self.ask(True, PAIR, [1, 0], ([], []), [])
        self.ask(False, PAIR, [1, 0], ([], []), [0])

    def test_ways_are_0_or_1(self):
        for way in (-1, 2, -2, 3, HUGE, -HUGE):
            self.ask(False, PAIR, [1, 1], ([(0, -1)], []), [way])
            self.ask(False, PAIR, [1, 1], ([(0, 0), (0, -1)], []), [0, way])
            self.ask(False, PAIR, [1, 1], ([(0, -1), (0, 0)], []), [way, 0])
        self.ask(True, PAIR, [1, 1], ([(0, -1)], []), [0])
        self.ask(True, PAIR, [1, 1], ([(0, -1)], []), [1])

    def test_seen_ways_as_seen(self):
        for seen in (0, 1):
            self.ask(True, PAIR, [1, 1], ([(0, seen)], []), [seen])
            self.ask(False, PAIR, [1, 1], ([(0, seen)], []), [1 - seen])

    def test_each_room_is_not_empty_then(self):
        self.ask(False, PAIR, [0, 1], ([(0, -1)], []), [0])
        self.ask(False, PAIR, [1, 0], ([(0, -1)] * 2, []), [0, 0])
        self.ask(True, PAIR, [1, 0], ([(0, -1)] * 3, []), [0, 1, 0])
        # That the numbers come right in the end does not do.
        self.ask(False, PAIR, [0, 1], ([(0, -1)] * 2, []), [0, 1])
        self.ask(False, LINE, [1, 0, 0], ([(1, -1), (0, -1)], []), [0, 0])
        self.ask(True, LINE, [1, 0, 0], ([(0, -1), (1, -1)], []), [0, 0])

    def test_looks_at_all_moments(self):
        begin, ways = [2, 0, 1], [0, 0, 1, 0]
        numbers = [[2, 0, 1], [1, 1, 1], [1, 0, 2], [1, 1, 1], [0, 2, 1]]
        for moment, room in itertools.product(range(5), range(3)):
            number = numbers[moment][room]
            for least, most, right in ((number, number, True), (number - 1, number - 1, False), (-5, number, True),
                                       (number + 1, number + 1, False), (number, HUGE, True), (-HUGE, HUGE, True),
                                       (number + 1, number, False), (number, number - 1, False),
                                       (-HUGE, number - 1, False), (number + 1, HUGE, False)):
                look = (moment, room, least, most)
                self.ask(right, LINE, begin, (ROW, [look]), ways)
                self.assertIs(story_right(LINE, begin, (ROW, [(0, 0, 0, 9), look, (4, 2, 0, 9)]), ways), right)

    def test_all_lists_of_small_tapes(self):
        chance, met = random.Random(81), Counter()
        for _ in range(100):
            house, begin, tape = chance_tape(chance, 3, 4, 2, 2)
            right = [ways for ways, _ in all_stories(house, begin, tape)]
            for many in range(len(tape[0]) + 2):
                for ways in itertools.product((-1, 0, 1, 2), repeat=many):
                    met[list(ways) in right] += 1
                    self.assertIs(story_right(house, begin, tape, list(ways)), list(ways) in right)
        self.assertGreater(met[True], 80)

    def test_great_tapes(self):
        chance, met = random.Random(82), Counter()
        for _ in range(60):
            house, begin, tape = gone_tape(chance, folk=chance.choice((1, HUGE)), slack=4)
            ways = story(house, begin, tape)[1]
            self.ask(True, house, begin, tape, ways)
            for _ in range(10):
                others = list(ways)
                for _ in range(chance.randint(1, 2)):
                    at = chance.randrange(200)
                    others[at] = 1 - others[at]
                right = goes_along(house, begin, tape, others)
                met[right] += 1
                self.assertIs(story_right(house, begin, tape, others), right)
        self.assertGreater(min(met.values()), 20)


class Papers(Judging):

    def ask(self, wanted, house, begin, tape, paper):
        self.told_right(paper_right, wanted, house, begin, tape, paper)

    def test_looks_that_are_wrong_and_right(self):
        tape = (ROW, [(0, 1, 3, 9), (1, 0, 2, 2), (2, 0, 1, 1), (4, 2, 1, 5), (3, 1, 9, 9), (3, 0, 0, 9)])
        for moment, room in itertools.product(range(-1, 7), range(-1, 5)):
            wrong = (moment, room) in ((0, 1), (1, 0), (3, 1))
            self.ask(wrong, LINE, [2, 2, 0], tape, ("look", moment, room))

    def test_looks_that_name_no_room_or_moment(self):
        for moment, room in ((0, 3), (0, -1), (-1, 0), (5, 0), (1, 3), (1, -3), (-4, 0), (HUGE, 0), (0, HUGE),
                             (-HUGE, -HUGE), (1, -HUGE)):
            self.ask(False, LINE, [2, 5, 0], (ROW, [(0, 0, 9, 9), (1, 0, 9, 9), (4, 2, 9, 9)]), ("look", moment, room))

    def test_a_tape_of_no_beads_has_but_papers_of_looks(self):
        tape = ([], [(0, 0, 3, 3)])
        self.ask(True, PAIR, [2, 0], tape, ("look", 0, 0))
        self.ask(False, PAIR, [3, 0], tape, ("look", 0, 0))
        self.ask(False, PAIR, [2, 0], tape, ("look", 0, 1))
        for kind in ("many", "few"):
            for stretches in ([], [(0, 0, 0)], [(0, 1, 1)], [(0, 1, 0)]):
                self.ask(False, PAIR, [2, 0], tape, (kind, stretches))

    def test_no_stretches_hold_nothing(self):
        for tape in (([], []), (ROW, []), (ROW, [(1, 0, 9, 9)])):
            for kind in ("many", "few"):
                self.ask(False, LINE, [0, 0, 0], tape, (kind, []))

    def test_beads_bound_to_stretches(self):
        # Nobody is there: each bead that is bound to stretches from the beginning on is one too many.
        for begin, beads, stretches, right in (
                ([0, 0, 0], [(0, -1)], [(0, 1, 1), (1, 1, 1)], True), ([0, 0, 0], [(0, -1)], [(0, 1, 1)], False),
                ([0, 0, 0], [(0, 0)], [(0, 1, 1)], True), ([0, 0, 0], [(0, 0)], [(1, 1, 1)], False),
                ([0, 0, 0], [(0, 1)], [(1, 1, 1)], True), ([1, 0, 0], [(0, -1)], [(0, 1, 1), (1, 1, 1)], False),
                ([0, 9, 0], [(0, 0)], [(0, 1, 1)], True), ([1, 0, 9], [(0, 0), (0, 0)], [(0, 1, 2)], True),
                ([1, 0, 9], [(0, 0), (0, 0)], [(0, 2, 2)], False), ([1, 0, 9], [(0, 0), (0, 0)], [(0, 1, 1)], False),
                ([1, 0, 0], [(1, -1), (0, 0)], [(1, 1, 1), (2, 1, 1)], True),
                ([1, 0, 0], [(1, -1), (0, 0)], [(1, 1, 2), (2, 1, 2)], False),
                ([1, 0, 0], [(1, -1), (0, 0)], [(1, 2, 2), (2, 1, 2)], False)):
            self.ask(right, LINE, begin, (beads, []), ("many", stretches))
            self.ask(False, LINE, begin, (beads, []), ("few", stretches))

    def test_beads_free_for_stretches(self):
        for begin, looks, stretches, right in (
                ([2, 1, 4], [(1, 2, 0, 3)], [(2, 1, 1)], True), ([2, 1, 4], [(1, 2, 0, 4)], [(2, 1, 1)], False),
                ([6, 0, 0], [(4, 0, 0, 2)], [(0, 1, 4)], True), ([6, 0, 0], [(4, 0, 0, 2)], [(0, 1, 3)], False),
                ([6, 0, 0], [(4, 0, 0, 2)], [(0, 2, 4)], False), ([6, 0, 0], [(4, 0, 0, 4)], [(0, 1, 4)], False),
                ([2, 5, 1], [(1, 0, 3, 3), (3, 0, 1, 1)], [(0, 2, 3)], True),
                ([2, 5, 1], [(1, 0, 3, 3), (3, 0, 1, 1)], [(0, 2, 2)], False),
                ([2, 5, 1], [(1, 0, 3, 3), (3, 0, 1, 1)], [(0, 1, 3)], False),
                ([4, 5, 1], [(1, 0, 3, 3), (3, 0, 1, 1)], [(0, 1, 3)], True),
                ([2, 5, 1], [(1, 0, 3, 3), (3, 0, 1, 1)], [(0, 1, 3), (2, 1, 4)], False)):
            self.ask(right, LINE, begin, (ROW, looks), ("few", stretches))
            self.ask(False, LINE, begin, (ROW, looks), ("many", stretches))

    def test_rows_that_are_no_stretches(self):
        # Four beads are bound, and but two of them can have left the second room, none the first one.
        tape, begin = ([(0, -1)] * 4, [(4, 0, 4, 4)]), [0, 0]
        self.ask(True, PAIR, begin, tape, ("many", [(0, 1, 4), (1, 1, 4)]))
        self.ask(True, PAIR, begin, tape, ("many", [(0, 1, 1), (0, 3, 4), (1, 1, 1), (1, 3, 4)]))
        for rows in ([(0, 0, 4), (1, 1, 4)], [(0, 1, 5), (1, 1, 4)], [(1, 1, 4), (0, 1, 4)],
                     [(0, 1, 4), (0, 1, 4), (1, 1, 4)], [(0, 1, 2), (0, 3, 4), (1, 1, 4)],
                     [(0, 1, 3), (0, 2, 4), (1, 1, 4)], [(0, 1, 4), (1, 1, 4), (2, 1, 1)],
                     [(0, 3, 4), (0, 1, 1), (1, 1, 4)], [(-1, 1, 4), (0, 1, 4), (1, 1, 4)],
                     [(0, 1, 4), (1, 1, 4), (1, 6, 5)], [(0, 1, 4), (0, 6, 5), (1, 1, 4)],
                     [(0, 1, 4), (1, 1, HUGE)], [(0, -HUGE, 4), (1, 1, 4)], [(-2, 1, 4), (-1, 1, 4)],
                     [(0, 1, 1), (0, 3, 2), (0, 4, 4), (1, 1, 4)], [(0, 1, 4), (1, 1, 4), (HUGE, 1, 1)],
                     [(1, 1, 4), (0, 1, 1), (0, 3, 4)], [(0, 1, 1), (1, 1, 4), (0, 3, 4)], [(0, 4, 1), (1, 4, 1)]):
            self.ask(False, PAIR, begin, tape, ("many", rows))
        tape, begin = ([(0, 0)] * 2, [(2, 1, 0, 0)]), [2, 0]
        self.ask(True, PAIR, begin, tape, ("few", [(1, 1, 2)]))
        for rows in ([(1, 0, 2)], [(1, 1, 3)], [(1, 1, 2)] * 2, [(0, 1, 1), (0, 2, 2), (1, 1, 2)], [(-1, 1, 2)],
                     [(1, 1, 2), (0, 1, 1)], [(1, 1, 2), (2, 1, 2)], [(-2, 1, 1), (1, 1, 2)], [(1, 2, 1)]):
            self.ask(False, PAIR, begin, tape, ("few", rows))

    def test_papers_of_other_kinds(self):
        tape = ([(0, 0)], [(1, 0, 9, 9)])
        for paper in (("folk",), ("below", 0), ("odd", 1), ("nobody", [0, 1]), ("lot", [0]), ("odds", [])):
            self.ask(False, PAIR, [0, 0], tape, paper)

    def test_all_papers_of_small_tapes(self):
        chance, met = random.Random(83), Counter()
        for _ in range(250):
            house, begin, tape = chance_tape(chance, 2, 3, 3, 2)
            told = any(True for _ in all_stories(house, begin, tape))
            numbers = range(-1, len(tape[0]) + 2)
            rows = list(itertools.product((-1, 0, 1, 2), numbers, numbers))
            papers = [("look", moment, room) for moment in numbers for room in (-1, 0, 1, 2)]
            papers += [(kind, [row]) for kind in ("many", "few") for row in rows]
            papers += [(kind, [chance.choice(rows) for _ in range(many)]) for kind in ("many", "few")
                       for many in (2, 3) for _ in range(150)]
            papers += [(kind, sorted(paper)) for kind, paper, *_ in papers if kind != "look"]
            for paper in papers:
                right = adds_up(house, begin, tape, paper)
                self.assertIs(paper_right(house, begin, tape, paper), right, (house, begin, tape, paper))
                met[paper[0], right] += 1
                self.assertFalse(right and told)
        for kind, least in (("look", 20), ("many", 100), ("few", 40)):
            self.assertGreater(met[kind, True], least)

    def test_papers_of_great_tapes_and_others_near_them(self):
        chance, met = random.Random(84), Counter()
        for _ in range(150):
            house, begin, tape = spoiled_tape(chance, 5, 12, chance.choice((1, HUGE)), chance.choice((50, 200)), 60)
            kind, paper = story(house, begin, tape)
            if kind == "story" or paper[0] == "look":
                continue
            self.ask(True, house, begin, tape, paper)
            other = {"many": "few", "few": "many"}[paper[0]]
            for near in [(other, paper[1])] + [self.near(chance, paper) for _ in range(10)]:
                right = adds_up(house, begin, tape, near)
                met[paper[0], right] += 1
                self.assertIs(paper_right(house, begin, tape, near), right)
        for kind in ("many", "few"):
            self.assertGreater(met[kind, True], 10)
            self.assertGreater(met[kind, False], 10)

    def near(self, chance, paper):
        kind, stretches = paper
        rows = [list(row) for row in stretches]
        row = chance.choice(rows)
        row[chance.randrange(3)] += chance.choice((-2, -1, 1, 2))
        if chance.random() < 0.2:
            rows.remove(row)
        return kind, [tuple(row) for row in rows]
