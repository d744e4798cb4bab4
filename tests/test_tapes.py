"""Points 14, 17 and 18, and 13 as far as these speak of stories: outs of a room, turned tapes, wardens' books."""

import itertools
import random

from bothdoors.tapes import least_out, most_out, tape_of, turned

from tests.asking import Asking
from tests.plain_tapes import all_stories, chance_tape, outs, outs_plainly
from tests.small import HUGE, chance_doors

LINE = (3, [(0, 1), (2, 1)])
ROW = [(0, -1), (0, 0), (1, 1), (0, 1), (1, -1), (0, -1)]


class Outs(Asking):

    def ask(self, most, least, begin, tape, room, moment, house=LINE):
        """That so many at most and so many at least went out of the room by then."""
        asked = {"house": house, "begin": begin, "tape": tape, "room": room, "moment": moment}
        self.same(self.told(most_out, **asked), most)
        self.same(self.told(least_out, **asked), least)


class WithoutLooks(Outs):

    def test_half_of_what_a_room_had_and_met(self):
        for moment, (first, middle, last) in enumerate(((0, 0, 0), (2, 0, 0), (2, 1, 0), (2, 1, 1), (3, 2, 1),
                                                        (3, 2, 1), (3, 3, 1))):
            self.ask(first, 0, [3, 0, 1], (ROW, []), 0, moment)
            self.ask(middle, 0, [3, 0, 1], (ROW, []), 1, moment)
            self.ask(last, 0, [3, 0, 1], (ROW, []), 2, moment)

    def test_ways_that_were_seen_change_nothing(self):
        for ways in itertools.product((-1, 0, 1), repeat=3):
            tape = ([(0, ways[0]), (1, ways[1]), (0, ways[2])], [])
            self.ask(2, 0, [2, 1, 0], tape, 0, 3)
            self.ask(2, 0, [2, 1, 0], tape, 1, 3)
            self.ask(0, 0, [2, 1, 0], tape, 2, 3)

    def test_a_room_without_doors_and_doors_that_nobody_passed(self):
        house = (4, [(0, 1), (1, 0), (2, 1)])
        tape = ([(0, 0), (1, 0), (0, 1)], [])
        self.ask(2, 0, [0, 0, 5, 7], tape, 2, 3, house)
        self.ask(3, 0, [0, 0, 5, 7], tape, 3, 3, house)
        self.ask(1, 0, [0, 0, 5, 7], tape, 0, 3, house)
        self.ask(1, 0, [0, 0, 5, 7], tape, 0, 2, house)
        self.ask(0, 0, [0, 0, 5, 7], tape, 1, 1, house)

    def test_a_tape_of_no_beads(self):
        self.ask(0, 0, [3, 1, 1], ([], []), 0, 0)
        self.ask(0, 0, [0], ([], []), 0, 0, (1, []))

    def test_folk_of_twenty_figures(self):
        self.ask(HUGE // 2 + 1, 0, [HUGE, 0, 0], (ROW, []), 0, 1)
        self.ask(HUGE // 2 + 1, 0, [HUGE, 0, 0], (ROW, []), 0, 2)
        self.ask(HUGE // 2 + 2, 0, [HUGE, 0, 0], (ROW, []), 0, 4)


class WithLooks(Outs):

    def test_the_greatest_of_the_leasts_and_the_least_of_the_mosts(self):
        # The first room has had and met 3 + 2 behind two beads.
        for looks, most, least in (([], 2, 0), ([(0, 99)], 2, 0), ([(1, 99)], 2, 0), ([(2, 99)], 1, 0),
                                   ([(3, 99)], 1, 0), ([(4, 99)], 0, 0), ([(5, 99)], 0, 0),
                                   ([(0, 5)], 2, 0), ([(0, 4)], 2, 1), ([(0, 3)], 2, 1), ([(0, 2)], 2, 2),
                                   ([(0, 1)], 2, 2), ([(0, 0)], 2, 3), ([(3, 3)], 1, 1), ([(2, 2)], 1, 2),
                                   ([(1, 4), (2, 9)], 1, 1), ([(2, 9), (1, 4)], 1, 1), ([(3, 4), (0, 2)], 1, 2),
                                   ([(0, 4), (0, 2), (0, 3)], 2, 2), ([(1, 9), (4, 9), (2, 9)], 0, 0)):
            tape = (ROW, [(2, 0, low, high) for low, high in looks])
            self.ask(most, least, [3, 0, 1], tape, 0, 2)

    def test_halves_below_nought_are_rounded_the_same_way(self):
        for least_seen, most in ((5, 0), (6, -1), (7, -1), (8, -2), (9, -2), (HUGE, (5 - HUGE) // 2)):
            self.ask(most, 0, [3, 0, 1], (ROW, [(2, 0, least_seen, HUGE)]), 0, 2)
        self.ask(-50000000000000000000 + 3, 0, [3, 0, 1], (ROW, [(2, 0, HUGE, HUGE)]), 0, 2)
        # Of leasts below 0 nought is the greatest, and of mosts below 0 more went out than there were.
        self.ask(2, 0, [3, 0, 1], (ROW, [(2, 0, -4, 9)]), 0, 2)
        self.ask(2, 4, [3, 0, 1], (ROW, [(2, 0, -4, -2)]), 0, 2)
        self.ask(2, 0, [3, 0, 1], (ROW, [(2, 0, -4, 6)]), 0, 2)

    def test_looks_at_other_rooms_and_moments_change_nothing(self):
        others = [(2, 1, 9, 9), (2, 2, 0, 0), (1, 0, 9, 9), (3, 0, 0, 0), (0, 0, 7, 7), (6, 0, 8, 9)]
        self.ask(2, 0, [3, 0, 1], (ROW, others), 0, 2)
        for at in range(len(others) + 1):
            self.ask(1, 2, [3, 0, 1], (ROW, others[:at] + [(2, 0, 2, 2)] + others[at:]), 0, 2)
        self.ask(-4, 0, [3, 0, 1], (ROW, others), 1, 2)
        self.ask(0, 1, [3, 0, 1], (ROW, others), 2, 2)

    def test_at_moment_nought_both_are_nought_whatever_looks_say(self):
        for beads in ([], ROW):
            for low, high in ((0, 0), (0, 1), (2, 2), (3, 3), (9, 9), (0, HUGE), (HUGE, HUGE), (4, 2), (-3, -1)):
                for room in range(3):
                    self.ask(0, 0, [3, 0, HUGE], (beads, [(0, room, low, high)]), room, 0)
                    self.ask(0, 0, [3, 0, HUGE], (beads, [(0, room, 0, 0), (0, room, low, high)]), room, 0)
            self.ask(0, 0, [3, 0, HUGE], (beads, []), 2, 0)

    def test_behind_the_last_bead(self):
        self.ask(2, 2, [3, 0, 1], (ROW, [(6, 0, 3, 4)]), 0, 6)
        self.ask(1, 3, [3, 0, 1], (ROW, [(6, 1, 4, 1)]), 1, 6)

    def test_against_the_plain_sums(self):
        chance = random.Random(41)
        for _ in range(400):
            house, begin, tape = chance_tape(chance, chance.randint(2, 4), 12, 9, 6)
            for room in range(house[0]):
                for moment in range(len(tape[0]) + 1):
                    self.ask(*outs_plainly(house, begin, tape, room, moment), begin, tape, room, moment, house)

    def test_so_many_went_out_in_each_story(self):
        chance = random.Random(42)
        met = {True: 0, False: 0}
        for _ in range(400):
            house, begin, tape = chance_tape(chance)
            for ways, _ in all_stories(house, begin, tape):
                for room in range(house[0]):
                    for moment in range(len(tape[0]) + 1):
                        gone_out = outs(house, tape[0][:moment], ways, room)
                        low = least_out(house, begin, tape, room, moment)
                        high = most_out(house, begin, tape, room, moment)
                        self.assertTrue(low <= gone_out <= high, (house, begin, tape, room, moment))
                        met[low < high] += 1
        self.assertGreater(min(met.values()), 500)

    def test_two_hundred_beads_and_sixty_looks(self):
        chance = random.Random(43)
        house = (10, chance_doors(chance, 10, 24))
        row = [(chance.randrange(24), chance.choice((-1, 0, 1))) for _ in range(200)]
        looks = [(chance.choice((0, 100, 200)), chance.randrange(10), low, low + chance.randint(0, 9))
                 for low in range(60)]
        begin = [chance.randint(0, HUGE) if room % 2 else room for room in range(10)]
        for room in range(10):
            for moment in (0, 1, 100, 199, 200):
                most, least = outs_plainly(house, begin, (row, looks), room, moment)
                self.ask(most, least, begin, (row, looks), room, moment, house)

    def test_what_is_handed_in_is_taken_as_it_is_now(self):
        begin, tape = [3, 0, 1], (list(ROW), [])
        self.assertEqual((most_out(LINE, begin, tape, 0, 2), least_out(LINE, begin, tape, 0, 2)), (2, 0))
        tape[1].append((2, 0, 2, 2))
        self.assertEqual((most_out(LINE, begin, tape, 0, 2), least_out(LINE, begin, tape, 0, 2)), (1, 2))
        begin[0] = 5
        self.assertEqual((most_out(LINE, begin, tape, 0, 2), least_out(LINE, begin, tape, 0, 2)), (2, 3))
        tape[0].insert(0, (1, 0))
        self.assertEqual((most_out(LINE, begin, tape, 0, 2), least_out(LINE, begin, tape, 0, 2)), (2, 2))


class Turned(Asking):

    def ask(self, tape, wanted):
        self.same(self.told(turned, tape=tape), wanted)
        self.same(self.told(turned, tape=wanted), tape)

    def test_beads_from_the_last_to_the_first_each_seen_way_turned_about(self):
        self.ask(([(0, 0)], []), ([(0, 1)], []))
        self.ask(([(3, -1)], []), ([(3, -1)], []))
        self.ask((ROW, []), ([(0, -1), (1, -1), (0, 0), (1, 0), (0, 1), (0, -1)], []))
        self.ask(([], []), ([], []))

    def test_looks_in_their_order_each_at_all_less_its_moment(self):
        self.ask((ROW, [(0, 1, 2, 3), (6, 0, 0, 9), (2, 2, 1, 1), (2, 2, 0, 0), (3, 1, 5, HUGE)]),
                 ([(0, -1), (1, -1), (0, 0), (1, 0), (0, 1), (0, -1)],
                  [(6, 1, 2, 3), (0, 0, 0, 9), (4, 2, 1, 1), (4, 2, 0, 0), (3, 1, 5, HUGE)]))
        self.ask(([], [(0, 1, 2, 3), (0, 0, 0, 0)]), ([], [(0, 1, 2, 3), (0, 0, 0, 0)]))

    def test_turned_twice_it_is_the_tape(self):
        chance = random.Random(51)
        for _ in range(200):
            _, _, tape = chance_tape(chance, 5, 30, 20)
            back = self.told(turned, tape=tape)
            self.assertEqual([len(rows) for rows in back], [len(rows) for rows in tape])
            self.same(self.told(turned, tape=back), tape)

    def test_two_hundred_beads_and_sixty_looks(self):
        row = [(at % 24, at % 3 - 1) for at in range(200)]
        looks = [(at * 7 % 201, at % 10, at, at + 1) for at in range(60)]
        back = self.told(turned, tape=(row, looks))
        self.assertEqual(back[0], [(door, {-1: -1, 0: 1, 1: 0}[way]) for door, way in reversed(row)])
        self.assertEqual(back[1], [(200 - moment, room, low, high) for moment, room, low, high in looks])

    def test_from_an_end_of_a_story_the_turned_tape_has_that_story_turned(self):
        chance = random.Random(52)
        told = 0
        for _ in range(300):
            house, begin, tape = chance_tape(chance)
            for ways, numbers in all_stories(house, begin, tape):
                told += 1
                back = [[1 - way for way in reversed(ways)], numbers[::-1]]
                self.assertIn(back, [list(story) for story in all_stories(house, numbers[-1], turned(tape))])
        self.assertGreater(told, 200)

    def test_a_tape_that_changed_is_turned_as_it_is_now(self):
        tape = ([(0, 1)], [(0, 1, 2, 3)])
        self.assertEqual(turned(tape), ([(0, 0)], [(1, 1, 2, 3)]))
        tape[0].append((2, -1))
        self.assertEqual(turned(tape), ([(2, -1), (0, 0)], [(2, 1, 2, 3)]))
        tape[1].clear()
        self.assertEqual(turned(tape), ([(2, -1), (0, 0)], []))


class Books(Asking):

    def ask(self, books, beads, looks):
        self.same(self.told(tape_of, books=books), (beads, looks))

    def test_no_books_and_books_of_nothing(self):
        self.ask([], [], [])
        self.ask([[]], [], [])
        self.ask([[], [], []], [], [])
        self.ask([[], [(4, 1, 0)], []], [(1, 0)], [])

    def test_beads_by_their_time(self):
        self.ask([[(7, 1, 0), (-3, 2, -1), (5, 0, 1)]], [(2, -1), (0, 1), (1, 0)], [])
        self.ask([[(7, 1, 0)], [(-3, 2, -1)], [(5, 0, 1)]], [(2, -1), (0, 1), (1, 0)], [])
        self.ask([[(5, 0, 1), (6, 0, 1)], [(7, 1, 0), (-3, 2, -1)]], [(2, -1), (0, 1), (0, 1), (1, 0)], [])

    def test_a_look_behind_as_many_beads_as_have_an_earlier_time(self):
        book = [(10, 1, 0), (20, 2, 1), (30, 3, -1)]
        for time, moment in ((-5, 0), (9, 0), (11, 1), (19, 1), (21, 2), (29, 2), (31, 3), (HUGE, 3), (-HUGE, 0)):
            for books in ([book + [(time, 4, 0, 9)]], [[(time, 4, 0, 9)] + book], [book, [(time, 4, 0, 9)]],
                          [[(time, 4, 0, 9)], book[::-1]]):
                self.ask(books, [(1, 0), (2, 1), (3, -1)], [(moment, 4, 0, 9)])

    def test_looks_by_their_time_those_of_one_time_by_the_books_order(self):
        self.ask([[(5, 1, 0, 1), (3, 2, 0, 2), (5, 0, 0, 3)], [(5, 1, 0, 4), (3, 0, 0, 5), (4, 3, -1)]],
                 [(3, -1)], [(0, 2, 0, 2), (0, 0, 0, 5), (1, 1, 0, 1), (1, 0, 0, 3), (1, 1, 0, 4)])
        self.ask([[(5, 1, 0, 4), (3, 0, 0, 5), (4, 3, -1)], [(5, 1, 0, 1), (3, 2, 0, 2), (5, 0, 0, 3)]],
                 [(3, -1)], [(0, 0, 0, 5), (0, 2, 0, 2), (1, 1, 0, 4), (1, 1, 0, 1), (1, 0, 0, 3)])

    def test_looks_at_two_times_between_the_same_beads_go_by_their_times(self):
        self.ask([[(6, 9, 0, 1), (5, 0, 0, 9)], [(8, 4, 1), (2, 4, 0), (7, 5, 0, 1), (4, 7, 3, 3)]],
                 [(4, 0), (4, 1)], [(1, 7, 3, 3), (1, 0, 0, 9), (1, 9, 0, 1), (1, 5, 0, 1)])

    def test_looks_of_one_time_are_not_put_in_order_themselves(self):
        looks = [(1, 9, 5, 6), (1, 0, 7, 8), (1, 4, 2, 3), (1, 4, 1, 9), (1, 4, 2, 3)]
        for some in itertools.permutations(looks):
            self.same(tape_of([list(some)]), ([], [(0, *look[1:]) for look in some]))
            self.same(tape_of([[look] for look in some]), ([], [(0, *look[1:]) for look in some]))

    def test_times_of_twenty_figures(self):
        self.ask([[(HUGE, 1, 0), (-HUGE, 2, 1), (HUGE - 1, 3, 0, HUGE)]], [(2, 1), (1, 0)], [(1, 3, 0, HUGE)])
        self.ask([[(2 ** 64, 1, 0), (2 ** 64 + 1, 2, 1), (-2 ** 64, 0, 0)]], [(0, 0), (1, 0), (2, 1)], [])

    def test_a_book_in_any_order_makes_the_same_tape(self):
        rows = [(4, 0, 1), (-2, 3, -1), (0, 1, 0), (3, 2, 0, 1), (9, 0, 2, 2)]
        for some in itertools.permutations(rows):
            for cut in range(6):
                self.same(tape_of([list(some[:cut]), list(some[cut:])]),
                          ([(3, -1), (1, 0), (0, 1)], [(2, 2, 0, 1), (3, 0, 2, 2)]))

    def test_against_plain_counting(self):
        chance = random.Random(61)
        for _ in range(150):
            times = chance.sample(range(-60, 60), 60)
            beads = [(time, chance.randrange(24), chance.choice((-1, 0, 1))) for time in times[:chance.randint(0, 40)]]
            looks = [(chance.choice(times[40:]), chance.randrange(10), low, low + 1) for low in range(20)]
            books = [[] for _ in range(chance.randint(1, 5))]
            for row in chance.sample(beads + looks, len(beads + looks)):
                chance.choice(books).append(row)
            self.ask(books, *self.plainly(books))

    def plainly(self, books):
        rows = [(row, at, place) for at, book in enumerate(books) for place, row in enumerate(book)]
        beads = {row[0]: row[1:] for row, _, _ in rows if len(row) == 3}
        looks = {(row[0], at, place): (sum(1 for time in beads if time < row[0]), *row[1:])
                 for row, at, place in rows if len(row) == 4}
        return [beads[time] for time in sorted(beads)], [looks[which] for which in sorted(looks)]

    def test_two_hundred_beads_and_sixty_looks(self):
        chance = random.Random(62)
        times = chance.sample(range(10 ** 18), 220)
        rows = [(time, time % 24, time % 3 - 1) for time in times[:200]]
        rows += [(chance.choice(times[200:]), 1, least, least) for least in range(60)]
        chance.shuffle(rows)
        self.ask([rows[:100], rows[100:]], *self.plainly([rows[:100], rows[100:]]))

    def test_books_that_changed_are_taken_as_they_are_now(self):
        books = [[(5, 1, 0)]]
        self.assertEqual(tape_of(books), ([(1, 0)], []))
        books[0].append((3, 2, 1))
        self.assertEqual(tape_of(books), ([(2, 1), (1, 0)], []))
        books.append([(4, 0, 0, 1)])
        self.assertEqual(tape_of(books), ([(2, 1), (1, 0)], [(1, 0, 0, 1)]))
