"""Point 16, and 3 as far as it speaks of numbers by tapes: what rooms and lots can have, and the sure ways."""

import random

from bothdoors.errors import NoStory
from bothdoors.moments import lot_now, room_at, sure
from bothdoors.stories import story

from tests.asking import Asking
from tests.plain import all_lots
from tests.plain_tapes import Plain, all_stories, chance_tape, gone_tape, spoiled_tape
from tests.small import HUGE

PAIR = (2, [(0, 1)])
LINE = (3, [(0, 1), (1, 2)])
ROW = [(0, -1), (1, 0), (1, -1), (0, -1)]


class Moments(Asking):

    def room(self, house, begin, tape, moment, room):
        return self.told(room_at, house=house, begin=begin, tape=tape, moment=moment, room=room)

    def lot(self, house, begin, tape, lot):
        return self.told(lot_now, house=house, begin=begin, tape=tape, lot=lot)

    def sure(self, house, begin, tape):
        return self.told(sure, house=house, begin=begin, tape=tape)

    def no_story(self, house, begin, tape):
        """That each of them refuses the tape, whatever it is asked."""
        asked = {"house": house, "begin": begin, "tape": tape}
        for moment in (0, len(tape[0])):
            for room in range(house[0]):
                self.refused(NoStory, room_at, **asked, moment=moment, room=room)
        for lot in ([], [0], list(range(house[0]))):
            self.refused(NoStory, lot_now, **asked, lot=lot)
        self.refused(NoStory, sure, **asked)


class ByHand(Moments):

    def test_rooms(self):
        for moment, spans in enumerate((((2, 2), (5, 5), (0, 0)), ((1, 3), (4, 6), (0, 0)), ((1, 3), (3, 5), (1, 1)),
                                        ((1, 3), (2, 6), (0, 2)), ((0, 4), (1, 7), (0, 2)))):
            for room, span in enumerate(spans):
                self.same(self.room(LINE, [2, 5, 0], (ROW, []), moment, room), span)

    def test_lots(self):
        for lot, span in (([], (0, 0)), ([0], (0, 4)), ([1], (1, 7)), ([2], (0, 2)), ([0, 1], (5, 7)),
                          ([0, 2], (0, 6)), ([1, 2], (3, 7)), ([0, 1, 2], (7, 7))):
            self.same(self.lot(LINE, [2, 5, 0], (ROW, []), lot), span)

    def test_sure_ways(self):
        self.same(self.sure(LINE, [2, 5, 0], (ROW, [])), [-1, 0, -1, -1])
        self.same(self.sure(LINE, [0, 2, 0], (ROW, [])), [1, 0, 1, -1])
        self.same(self.sure(LINE, [1, 0, 0], (ROW, [])), [0, 0, 1, 1])
        self.same(self.sure(LINE, [2, 5, 0], (ROW, [(4, 0, 0, 0)])), [0, 0, -1, 0])
        self.same(self.sure(LINE, [2, 5, 0], (ROW, [(3, 2, 0, 1), (4, 0, 3, 4)])), [1, 0, 1, 1])
        self.same(self.sure(LINE, [2, 5, 1], ([(0, 0), (1, 1), (1, 0), (0, 1)], [])), [0, 1, 0, 1])

    def test_no_beads(self):
        for begin in ([3, 0], [0, HUGE]):
            for room in (0, 1):
                self.same(self.room(PAIR, begin, ([], []), 0, room), (begin[room], begin[room]))
            self.same(self.lot(PAIR, begin, ([], []), [0, 1]), (sum(begin), sum(begin)))
            self.same(self.lot(PAIR, begin, ([], []), []), (0, 0))
            self.same(self.sure(PAIR, begin, ([], [])), [])
        self.same(self.lot((1, []), [4], ([], [(0, 0, 4, 4)]), [0]), (4, 4))

    def test_twenty_figures(self):
        begin = [HUGE, 0, HUGE - 1]
        self.same(self.room(LINE, begin, (ROW, []), 4, 0), (HUGE - 2, HUGE))
        self.same(self.room(LINE, begin, (ROW, [(4, 0, 0, HUGE - 1)]), 4, 0), (HUGE - 2, HUGE - 2))
        self.same(self.lot(LINE, begin, (ROW, []), [0, 2]), (2 * HUGE - 3, 2 * HUGE - 1))
        self.same(self.sure(LINE, begin, (ROW, [(2, 0, HUGE - 1, HUGE - 1)])), [0, 0, 1, -1])

    def test_rooms_ahead_of_their_first_bead(self):
        row = [(1, -1), (1, -1), (0, -1)]
        for moment, span in enumerate(((4, 4), (4, 4), (4, 4), (3, 5))):
            self.same(self.room(LINE, [4, 4, 4], (row, []), moment, 0), span)

    def test_no_story(self):
        self.no_story(PAIR, [0, 0], ([(0, -1)], []))
        self.no_story(PAIR, [1, 1], ([], [(0, 0, 2, 2)]))
        self.no_story(LINE, [2, 5, 0], (ROW, [(4, 0, 1, 1)]))
        self.no_story(LINE, [2, 5, 0], (ROW, [(2, 1, 5, 5), (1, 1, 4, 4), (2, 0, 3, 3)]))


class Small(Moments):

    def test_against_all_stories(self):
        chance, met = random.Random(91), {True: 0, False: 0}
        for _ in range(350):
            house, begin, tape = chance_tape(chance, chance.choice((2, 3, 4)), 7, 3)
            stories = list(all_stories(house, begin, tape))
            met[bool(stories)] += 1
            if stories:
                self.against(stories, house, begin, tape)
            else:
                self.no_story(house, begin, tape)
        self.assertGreater(min(met.values()), 100)

    def against(self, stories, house, begin, tape):
        for moment in range(len(tape[0]) + 1):
            for room in range(house[0]):
                had = {numbers[moment][room] for _, numbers in stories}
                self.same(room_at(house, begin, tape, moment, room), (min(had), max(had)))
                self.assertEqual(sorted(had), list(range(min(had), max(had) + 1, 2)))
        for lot in all_lots(house[0]):
            had = {sum(numbers[-1][room] for room in lot) for _, numbers in stories}
            self.same(lot_now(house, begin, tape, lot), (min(had), max(had)))
            self.assertEqual(sorted(had), list(range(min(had), max(had) + 1, 2)))
        self.same(self.room(house, begin, tape, len(tape[0]), 0), self.lot(house, begin, tape, [0]))
        both = [{way for way in ways} for ways in zip(*[ways for ways, _ in stories])]
        self.same(self.sure(house, begin, tape), [min(ways) if len(ways) == 1 else -1 for ways in both])


class Great(Moments):

    def against_numbers(self, house, begin, tape, some):
        plain = Plain(house, begin, tape)
        if not plain.possible():
            self.no_story(house, begin, tape)
            return False
        for moment, room in some:
            self.same(room_at(house, begin, tape, moment, room), plain.span([room], moment))
            had = plain.numbers([room], moment)
            self.assertEqual(had, list(range(had[0], had[-1] + 1, 2)))
        for lot in all_lots(house[0])[::house[0]]:
            self.same(lot_now(house, begin, tape, lot), plain.span(lot, len(tape[0])))
            had = plain.numbers(lot, len(tape[0]))
            self.assertEqual(had, list(range(had[0], had[-1] + 1, 2)))
        self.same(sure(house, begin, tape), plain.sure())
        return True

    def test_against_all_numbers_that_few_folk_can_have(self):
        chance, met = random.Random(92), {True: 0, False: 0}
        for _ in range(60):
            rooms, beads = chance.choice(((3, 60), (4, 40), (5, 30), (10, 12)))
            house, begin, tape = chance.choice((spoiled_tape, gone_tape))(chance, rooms, 24, 1 if rooms < 5 else 0,
                                                                          beads, 12)
            some = [(chance.randint(0, beads), chance.randrange(rooms)) for _ in range(12)]
            met[self.against_numbers(house, begin, tape, some)] += 1
        self.assertGreater(min(met.values()), 10)

    def test_two_hundred_beads_in_ten_rooms(self):
        chance = random.Random(93)
        for looks in (0, 5, 60):
            house, begin, (row, rows) = gone_tape(chance, 10, 24, 0, 200, looks)
            # Another one, whom no look saw.
            begin[chance.randrange(10)] += 1
            tape = (row, [(moment, room, least, most + 1) for moment, room, least, most in rows])
            some = [(chance.randint(0, 200), chance.randrange(10)) for _ in range(20)]
            self.assertTrue(self.against_numbers(house, begin, tape, some))

    def test_no_more_and_no_less_with_many_folk(self):
        """A look that lets a room have just the least, or the greatest, lets some story be; one beyond it none."""
        chance, wide = random.Random(94), 0
        for _ in range(25):
            house, begin, (row, looks) = gone_tape(chance, chance.choice((2, 4, 10)), 24, chance.choice((9, 90, HUGE)),
                                                   200, chance.choice((0, 5, 55)), slack=5)
            for _ in range(4):
                moment, room = chance.randint(0, 200), chance.randrange(house[0])
                least, greatest = room_at(house, begin, (row, looks), moment, room)
                wide = max(wide, greatest - least)
                for low, high, kind in ((least, least, "story"), (greatest, greatest, "story"),
                                        (-HUGE, least - 1, "paper"), (greatest + 1, 2 * HUGE, "paper"),
                                        (least + 1, least + 1, "paper")):
                    told = story(house, begin, (row, looks + [(moment, room, low, high)]))
                    self.assertEqual(told[0], kind)
        self.assertGreater(wide, 80)
