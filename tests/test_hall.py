"""Points 19 to 21, and 2 and 3 as far as they speak of halls: deeds, refusals, marks, asks and news."""

import copy
import itertools
import random
from collections import Counter

from bothdoors import errors
from bothdoors.hall import Hall
from bothdoors.stories import paper_right, story, story_right

from tests.asking import Asking, lists_in, turned_about, wreck
from tests.plain_hall import PlainHall, Refused, chance_deed
from tests.plain_tapes import adds_up, goes_along, gone_tape, look_papers
from tests.small import HUGE, chance_doors

PAIR = (2, [(0, 1)])
LINE = (3, [(0, 1), (1, 2)])


class Halls(Asking):

    def refuses(self, error, deed, *places, **named):
        """That the hall refuses with just this error, and is as it was."""
        hall = deed.__self__
        before = (hall.tape(), hall.story())
        with self.assertRaises(error) as caught:
            deed(*places, **named)
        self.assertIs(type(caught.exception), error)
        self.same((hall.tape(), hall.story()), before)
        return caught.exception

    def barred(self, paper, deed, *places, **named):
        self.same(self.refuses(errors.Barred, deed, *places, **named).paper, paper)

    def made(self, house, begin, beads=(), looks=()):
        """A hall with these beads, then looks."""
        hall = Hall(house, begin)
        for door, way in beads:
            hall.bead(door, way=way)
        for room, least, most in looks:
            hall.look(room, least, most)
        return hall


class Making(Halls):

    def test_a_new_hall(self):
        for hall in (Hall(LINE, [2, 5, 0]), Hall(begin=[2, 5, 0], house=LINE)):
            self.same(self.told(hall.house), LINE)
            self.same(self.told(hall.begin), [2, 5, 0])
            self.same(self.told(hall.tape), ([], []))
            self.same(self.told(hall.story), [])
            self.same(self.told(hall.sure), [])
            self.same(self.told(hall.news), [])
            self.same(self.told(hall.room, room=1, moment=0), (5, 5))
            self.same(self.told(hall.lot, rooms=[0, 1]), (7, 7))
            self.same(self.told(hall.lot, rooms=[]), (0, 0))
            self.same(self.told(hall.end, numbers=[2, 5, 0]), ("story", []))
            self.same(self.told(hall.end, numbers=[2, 4, 1]), ("paper", ("look", 0, 1)))
            self.refuses(errors.NoMark, hall.undo, 0)
            self.refuses(errors.NoLook, hall.strike, 0)
            self.refuses(errors.NoBead, hall.seen, 0, 0)

    def test_a_house_without_doors(self):
        hall = Hall((1, []), [4])
        self.refuses(errors.NoDoor, hall.bead, 0)
        self.assertEqual(hall.look(0, 4, 4), 0)
        self.barred(("look", 0, 0), hall.look, 0, 5, 9)
        self.same(hall.news(), [])

    def test_numbers_from_nought_on(self):
        hall = Hall(LINE, [2, 5, 0])
        for at in range(4):
            self.same(hall.bead(at % 2), at)
            self.same(hall.look(0, 0, 9), 2 * at)
            self.same(hall.look(room=1, most=9, least=0), 2 * at + 1)
            self.same(hall.mark(), at)
        self.same(hall.bead(way=1, door=0), 4)
        self.same(hall.bead(1, way=0), 5)
        self.same(hall.tape()[0], [(0, -1), (1, -1), (0, -1), (1, -1), (0, 1), (1, 0)])
        self.same(hall.tape()[1], [(at // 2 + 1, at % 2, 0, 9) for at in range(8)])

    def test_a_way_is_handed_in_by_its_name_alone(self):
        with self.assertRaises(TypeError):
            Hall(PAIR, [1, 1]).bead(0, 1)

    def test_deeds_tell_nothing_else(self):
        hall = self.made(PAIR, [1, 1], [(0, -1)], [(0, 0, 9)])
        mark = hall.mark()
        self.assertIsNone(hall.seen(0, 1))
        self.assertIsNone(hall.seen(0, 1))
        self.assertIsNone(hall.strike(0))
        self.assertIsNone(hall.undo(mark))


class Deeds(Halls):

    def test_beads_and_looks_that_leave_no_story(self):
        hall = Hall(LINE, [1, 0, 0])
        self.barred(("many", [(1, 1, 1), (2, 1, 1)]), hall.bead, 1)
        self.barred(("many", [(1, 1, 1)]), hall.bead, 0, way=1)
        self.assertEqual(hall.bead(0), 0)
        self.barred(("look", 1, 0), hall.look, 0, 1, 1)
        self.assertEqual(self.refuses(errors.Barred, hall.look, 0, 2, 9).paper[0], "many")
        self.barred(("look", 1, 0), hall.look, 0, 3, 9)
        self.assertEqual(hall.look(0, 0, 0), 0)
        self.assertEqual(hall.bead(1), 1)
        self.barred(("look", 2, 2), hall.look, 2, 2, 2)
        self.assertEqual(self.refuses(errors.Barred, hall.bead, 0).paper[0], "many")
        self.same(hall.tape(), ([(0, -1), (1, -1)], [(1, 0, 0, 0)]))

    def test_ways_that_become_known(self):
        hall = self.made(LINE, [1, 1, 0], [(0, -1), (0, -1), (1, 0)])
        self.assertEqual(hall.sure(), [-1, -1, 0])
        hall.seen(way=0, bead=1)
        self.same(hall.tape(), ([(0, -1), (0, 0), (1, 0)], []))
        self.same(hall.sure(), [1, 0, 0])
        self.assertEqual(self.refuses(errors.Barred, hall.seen, 0, 0).paper[0], "many")
        hall.seen(1, 0)
        hall.seen(2, 0)
        self.same(hall.tape(), ([(0, -1), (0, 0), (1, 0)], []))
        self.refuses(errors.Known, hall.seen, 1, 1)
        self.refuses(errors.Known, hall.seen, 2, 1)
        hall.seen(0, 1)
        self.refuses(errors.Known, hall.seen, 0, 0)
        self.same(hall.story(), [1, 0, 0])

    def test_struck_looks(self):
        hall = self.made(PAIR, [3, 3], [(0, -1)], [(0, 0, 2), (1, 4, 9), (0, 1, 9), (1, 0, 8)])
        self.refuses(errors.Barred, hall.seen, 0, 1)
        hall.strike(0)
        self.same(hall.tape()[1], [(1, 1, 4, 9), (1, 0, 1, 9), (1, 1, 0, 8)])
        self.refuses(errors.Barred, hall.seen, 0, 1)
        self.refuses(errors.NoLook, hall.strike, 3)
        hall.strike(look=2)
        hall.strike(0)
        self.same(hall.tape()[1], [(1, 0, 1, 9)])
        hall.seen(0, 1)
        self.assertEqual(hall.look(1, 0, 9), 1)
        hall.strike(1)
        hall.strike(0)
        self.refuses(errors.NoLook, hall.strike, 0)
        self.same(hall.tape(), ([(0, 1)], []))

    def test_each_refusal(self):
        hall = self.made(LINE, [2, 5, 0], [(0, -1), (1, 0)], [(0, 0, 9)])
        hall.mark()
        for number in (-1, -2, -HUGE, HUGE):
            for deed in (hall.bead, hall.strike, hall.undo):
                error = {"bead": errors.NoDoor, "strike": errors.NoLook, "undo": errors.NoMark}[deed.__name__]
                self.refuses(error, deed, number)
            self.refuses(errors.NoRoom, hall.look, number, 0, 9)
            self.refuses(errors.NoBead, hall.seen, number, 0)
            self.refuses(errors.NoRoom, hall.room, number, 0)
            self.refuses(errors.NoMoment, hall.room, 0, number)
            self.refuses(errors.NoRoom, hall.lot, sorted([0, number]))
        for deed, named, error in (
                (hall.bead, {"door": 2}, errors.NoDoor), (hall.look, {"room": 3, "least": 0, "most": 9}, errors.NoRoom),
                (hall.seen, {"bead": 2, "way": 0}, errors.NoBead), (hall.strike, {"look": 1}, errors.NoLook),
                (hall.undo, {"mark": 1}, errors.NoMark), (hall.room, {"room": 3, "moment": 0}, errors.NoRoom),
                (hall.room, {"room": 0, "moment": 3}, errors.NoMoment), (hall.lot, {"rooms": [3]}, errors.NoRoom),
                (hall.lot, {"rooms": [0, 1, 2, 3]}, errors.NoRoom)):
            self.refuses(error, deed, **named)
            self.refuses(error, deed, *named.values())
        for way in (-2, 2, HUGE, -HUGE):
            self.refuses(errors.NoWay, hall.bead, 0, way=way)
            self.refuses(errors.NoWay, hall.seen, 0, way)
        self.refuses(errors.NoWay, hall.seen, 0, -1)
        self.refuses(errors.NoWay, hall.seen, 1, -1)

    def test_two_due_at_once(self):
        hall = self.made(LINE, [1, 0, 0], [(0, 0)])
        self.refuses(errors.NoDoor, hall.bead, 2, way=2)
        self.refuses(errors.NoDoor, hall.bead, -1, way=-2)
        # Nobody is there to go this way, nor that one.
        self.refuses(errors.NoWay, hall.bead, 0, way=2)
        self.refuses(errors.Barred, hall.bead, 0, way=0)
        self.refuses(errors.NoRoom, hall.look, 3, 9, 9)
        self.refuses(errors.NoRoom, hall.look, -1, 2, 1)
        self.refuses(errors.NoBead, hall.seen, 1, 2)
        self.refuses(errors.NoBead, hall.seen, -1, -1)
        self.refuses(errors.NoWay, hall.seen, 0, 2)
        self.refuses(errors.NoWay, hall.seen, 0, -1)
        # It is known, and it could not be either.
        self.refuses(errors.Known, hall.seen, 0, 1)
        self.refuses(errors.NoRoom, hall.room, 3, 2)
        self.refuses(errors.NoRoom, hall.room, -1, -1)

    def test_a_look_paper_is_told_ahead_of_others(self):
        hall = self.made(LINE, [1, 0, 0], [(0, -1), (1, -1)])
        # Behind both beads the one who is there is in the last room.
        self.assertEqual(self.refuses(errors.Barred, hall.look, 2, 0, 0).paper, ("look", 2, 2))
        self.assertIn(self.refuses(errors.Barred, hall.look, 1, 2, 2).paper[0], ("many", "few"))
        self.assertEqual(self.refuses(errors.Barred, hall.look, 1, 3, 3).paper, ("look", 2, 1))

    def test_the_paper_is_kept_as_a_copy(self):
        hall = Hall(PAIR, [0, 0])
        for _ in range(2):
            paper = self.refuses(errors.Barred, hall.bead, 0).paper
            self.same(paper, ("many", [(0, 1, 1), (1, 1, 1)]))
            wreck(paper)


class Marks(Halls):

    def test_undone_to_a_mark(self):
        hall = Hall(PAIR, [3, 3])
        self.same(hall.mark(), 0)
        hall.bead(0)
        hall.look(0, 0, 9)
        self.same(hall.mark(), 1)
        hall.seen(0, 1)
        hall.strike(0)
        hall.bead(0, way=0)
        self.same(hall.mark(), 2)
        hall.undo(mark=1)
        self.same(hall.tape(), ([(0, -1)], [(1, 0, 0, 9)]))
        self.same(hall.sure(), [-1])
        self.refuses(errors.NoMark, hall.undo, 2)
        self.same(hall.bead(0), 1)
        self.same(hall.look(0, 0, 9), 1)
        self.same(hall.mark(), 2)
        hall.undo(2)
        self.same(hall.tape(), ([(0, -1), (0, -1)], [(1, 0, 0, 9), (2, 0, 0, 9)]))
        hall.undo(0)
        self.same(hall.tape(), ([], []))
        self.refuses(errors.NoMark, hall.undo, 1)
        hall.undo(0)
        self.same(hall.mark(), 1)

    def test_undone_to_the_same_mark_again_and_again(self):
        hall = self.made(PAIR, [2, 0], [(0, -1)])
        hall.mark()
        for way in (0, 1, -1, 0):
            hall.bead(0, way=way)
            hall.look(1, 0, 9)
            hall.undo(0)
            self.same(hall.tape(), ([(0, -1)], []))
            self.same(hall.story(), [0])

    def test_marks_of_the_same_tape(self):
        hall = Hall(PAIR, [2, 0])
        self.assertEqual([hall.mark() for _ in range(4)], [0, 1, 2, 3])
        hall.undo(2)
        self.refuses(errors.NoMark, hall.undo, 3)
        self.assertEqual(hall.mark(), 3)

    def test_what_was_seen_and_struck_is_so_no_more(self):
        hall = self.made(PAIR, [1, 1], [(0, -1)], [(0, 0, 2)])
        hall.mark()
        hall.seen(0, 0)
        hall.strike(0)
        hall.undo(0)
        hall.seen(0, 1)
        self.same(hall.tape(), ([(0, 1)], [(1, 0, 0, 2)]))
        hall.undo(0)
        self.same(hall.tape(), ([(0, -1)], [(1, 0, 0, 2)]))

    def test_refused_deeds_change_no_marks(self):
        hall = Hall(PAIR, [1, 0])
        hall.mark()
        hall.bead(0)
        self.refuses(errors.Barred, hall.bead, 0, way=0)
        self.refuses(errors.NoMark, hall.undo, 1)
        self.refuses(errors.NoMark, hall.undo, -1)
        self.assertEqual(hall.mark(), 1)
        hall.undo(0)
        self.same(hall.tape(), ([], []))

    def test_four_hundred_marks(self):
        hall = Hall(PAIR, [1, 0])
        for at in range(400):
            if at % 2 == 0:
                hall.bead(0)
            self.assertEqual(hall.mark(), at)
        for at in (399, 250, 101, 0):
            hall.undo(at)
            self.assertEqual(len(hall.tape()[0]), at // 2 + 1)
            self.assertEqual(hall.story(), [way % 2 for way in range(at // 2 + 1)])


class News(Halls):

    def news(self, hall, *wanted):
        told = hall.news()
        self.same(told, list(wanted))
        self.own_lists(told, hall.news())

    def test_of_each_room_that_can_have_other_numbers_now(self):
        hall = Hall(LINE, [2, 5, 0])
        self.news(hall)
        hall.bead(0)
        self.news(hall, (0, 1, 3), (1, 4, 6))
        self.news(hall)
        hall.bead(1, way=0)
        hall.look(2, 1, 1)
        self.news(hall, (1, 3, 5), (2, 1, 1))
        hall.seen(0, 0)
        self.news(hall, (0, 1, 1), (1, 5, 5))
        hall.bead(1)
        hall.look(2, 2, 9)
        self.news(hall, (1, 4, 4), (2, 2, 2))
        hall.strike(1)
        self.news(hall, (1, 4, 6), (2, 0, 2))

    def test_many_deeds_between_news(self):
        hall = Hall(PAIR, [2, 2])
        hall.bead(0, way=0)
        hall.bead(0, way=1)
        self.news(hall)
        hall.bead(0, way=0)
        hall.bead(0)
        self.news(hall, (0, 0, 2), (1, 2, 4))

    def test_undoing_does_not_undo_news(self):
        hall = Hall(PAIR, [2, 2])
        hall.mark()
        hall.bead(0, way=0)
        self.news(hall, (0, 1, 1), (1, 3, 3))
        hall.undo(0)
        self.news(hall, (0, 2, 2), (1, 2, 2))
        hall.bead(0, way=0)
        hall.undo(0)
        self.news(hall)

    def test_refused_deeds_and_asks_are_no_news(self):
        hall = Hall(PAIR, [1, 0])
        hall.bead(0)
        self.refuses(errors.Barred, hall.look, 0, 1, 1)
        hall.room(0, 1), hall.lot([0, 1]), hall.end([0, 1]), hall.sure()
        self.news(hall, (0, 0, 0), (1, 1, 1))
        self.refuses(errors.Barred, hall.bead, 0, way=0)
        self.news(hall)

    def test_a_least_or_a_greatest_alone(self):
        hall = self.made(PAIR, [5, 5], [(0, -1), (0, -1)])
        self.news(hall, (0, 3, 7), (1, 3, 7))
        hall.look(0, 4, 9)
        self.news(hall, (0, 5, 7), (1, 3, 5))
        hall.look(0, 0, 5)
        self.news(hall, (0, 5, 5), (1, 5, 5))


class Ends(Halls):

    def test_ends_by_hand(self):
        hall = self.made(LINE, [2, 5, 0], [(0, -1), (1, 0)])
        self.same(self.told(hall.end, numbers=[1, 5, 1]), ("story", [0, 0]))
        self.same(self.told(hall.end, numbers=[3, 3, 1]), ("story", [1, 0]))
        self.same(self.told(hall.end, numbers=[2, 4, 1]), ("paper", ("look", 2, 0)))
        self.same(self.told(hall.end, numbers=[1, 5, 0]), ("paper", ("look", 2, 2)))
        self.same(self.told(hall.end, numbers=[1, 5, -1]), ("paper", ("look", 2, 2)))
        self.same(self.told(hall.end, numbers=[-HUGE, HUGE, 7]), ("paper", ("look", 2, 0)))
        self.assertIn(hall.end([3, 5, 1])[1][0], ("many", "few"))
        self.assertIn(hall.end([1, 3, 1])[1][0], ("many", "few"))
        hall.look(0, 0, 1)
        self.same(self.told(hall.end, numbers=[3, 3, 1]), ("paper", ("look", 2, 0)))
        self.same(hall.tape(), ([(0, -1), (1, 0)], [(2, 0, 0, 1)]))

    def test_behind_the_halls_own_looks(self):
        hall = self.made(PAIR, [2, 2], [], [(0, 2, 2)])
        hall.bead(0)
        hall.look(1, 0, 2)
        self.same(self.told(hall.end, numbers=[3, 1]), ("story", [1]))
        self.same(self.told(hall.end, numbers=[1, 3]), ("paper", ("look", 1, 1)))

    def test_a_full_tape_and_ten_looks_more(self):
        chance = random.Random(101)
        house, begin, (row, looks) = gone_tape(chance, slack=3, seen=0.1)
        hall = Hall(house, begin)
        for moment in range(201):
            for at, room, least, most in looks:
                if at == moment:
                    hall.look(room, least, most)
            if moment < 200:
                hall.bead(row[moment][0], way=row[moment][1])
        self.assertEqual([len(rows) for rows in hall.tape()], [200, 60])
        numbers = list(begin)
        for (door, _), way in zip(row, hall.story()):
            numbers[house[1][door][way]] -= 1
            numbers[house[1][door][1 - way]] += 1
        kind, ways = self.told(hall.end, numbers=numbers)
        self.assertEqual(kind, "story")
        self.assertTrue(goes_along(house, begin, hall.tape(), ways))
        for room in range(10):
            other = [number + 2 * (at == room) for at, number in enumerate(numbers)]
            kind, paper = hall.end(other)
            tape = (row, hall.tape()[1] + [(200, at, number, number) for at, number in enumerate(other)])
            self.assertTrue(kind == "paper" and adds_up(house, begin, tape, paper))


class OwnLists(Halls):

    def test_told_lists_that_are_changed(self):
        hall = self.made(LINE, [1, 1, 0], [(0, -1), (1, -1)], [(2, 0, 9)])
        hall.mark()
        asks = (hall.house, hall.begin, hall.tape, hall.story, hall.sure, lambda: hall.end([1, 1, 0]),
                lambda: hall.end([0, 1, 1]), lambda: hall.end([2, 1, 1]), lambda: hall.room(0, 1),
                lambda: hall.lot([0]))
        before = [ask() for ask in asks]
        self.assertEqual([what[0] for what in before[5:8]], ["paper", "story", "paper"])
        self.own_lists([ask() for ask in asks], before)
        kept = copy.deepcopy(before)
        wreck(before)
        self.same([ask() for ask in asks], kept)
        self.assertEqual(len(lists_in(kept)), 1 + 8)
        hall.undo(0)
        self.same([ask() for ask in asks], kept)

    def test_handed_in_lists_that_are_changed(self):
        house, begin = (2, [(0, 1)]), [2, 0]
        hall = Hall(house, begin)
        hall.bead(0)
        house[1].append((1, 0))
        begin[0] = 0
        self.refuses(errors.NoDoor, hall.bead, 1)
        self.same((hall.house(), hall.begin()), ((2, [(0, 1)]), [2, 0]))
        self.same(hall.room(0, 1), (1, 1))
        numbers, rooms = [1, 1], [0]
        hall.end(numbers), hall.lot(rooms)
        self.assertEqual((numbers, rooms), ([1, 1], [0]))
        hall.tape()[0].append((0, 0))
        self.same(hall.tape(), ([(0, -1)], []))

    def test_another_hall_beside(self):
        house, begin = (2, [(0, 1), (1, 0)]), [1, 1]
        one, other = Hall(house, begin), Hall(house, begin)
        one.bead(0, way=0)
        one.mark()
        self.same(other.tape(), ([], []))
        self.refuses(errors.NoMark, other.undo, 0)
        other.bead(1)
        other.look(0, 2, 2)
        self.same((one.tape(), other.tape()), (([(0, 0)], []), ([(1, -1)], [(1, 0, 2, 2)])))
        self.same((one.sure(), other.sure()), ([0], [0]))
        self.same((one.news(), other.news()), ([(0, 0, 0), (1, 2, 2)], [(0, 2, 2), (1, 0, 0)]))
        one.undo(0)
        self.same(other.news(), [])
        self.same((one.begin(), other.begin()), ([1, 1], [1, 1]))


class ToldAnew(Halls):
    """Halls by fixed chance, held against plain going through after each deed."""

    def both(self, hall, plain, name, named):
        """Does the deed in both halls; told is "told" or the refusal's name."""
        before = copy.deepcopy(named)
        try:
            wanted = getattr(plain, name)(**named)
        except Refused as refused:
            error = getattr(errors, refused.name)
            caught = self.refuses(error, getattr(hall, name), **turned_about(named))
            if refused.name == "Barred":
                self.paper(hall.house(), hall.begin(), refused.tape, caught.paper)
            self.assertEqual(named, before)
            return refused.name
        self.same(getattr(hall, name)(**turned_about(named)), wanted)
        self.assertEqual(named, before)
        return "told"

    def paper(self, house, begin, tape, paper):
        self.assertTrue(adds_up(house, begin, tape, paper))
        self.assertIs(paper_right(house, begin, tape, paper), True)
        looks = look_papers(house, begin, tape)
        self.assertEqual(paper[0] == "look", bool(looks))
        self.assertIn(paper, looks[:1] or [paper])

    def as_told_anew(self, chance, hall, plain):
        rooms, now = plain.place[0], len(plain.beads)
        self.same(hall.tape(), (plain.beads, plain.looks))
        self.same((hall.house(), hall.begin()), (plain.place, plain.first))
        self.assertTrue(goes_along(plain.place, plain.first, hall.tape(), hall.story()))
        for room, moment in ((chance.randrange(rooms), now), (chance.randrange(rooms), chance.randint(0, now))):
            self.same(hall.room(room, moment), plain.room(room, moment))
        lot = [room for room in range(rooms) if chance.random() < 0.5]
        self.same(hall.lot(lot), plain.lot(lot))
        self.same(hall.sure(), plain.sure())
        possible = plain.ends()
        end = list(chance.choice(possible))
        if chance.random() < 0.5:
            end[chance.randrange(rooms)] += chance.choice((-2, -1, 1, 2))
            end[chance.randrange(rooms)] += chance.choice((-2, -1, 1, 2))
        kind, what = hall.end(numbers=end)
        self.assertEqual(kind, "story" if end in possible else "paper")
        if kind == "story":
            self.assertTrue(goes_along(plain.place, plain.first, plain.end_tape(end), what))
        else:
            self.paper(plain.place, plain.first, plain.end_tape(end), what)

    def through(self, chance, house, begin, deeds):
        hall, plain, met = Hall(house, begin), PlainHall(house, begin), Counter()
        for _ in range(deeds):
            name, named = chance_deed(chance, plain)
            met[name, self.both(hall, plain, name, named)] += 1
            self.as_told_anew(chance, hall, plain)
            if chance.random() < 0.3:
                self.same(hall.news(), plain.news())
        return met

    def test_small_halls(self):
        chance, met = random.Random(102), Counter()
        for _ in range(120):
            rooms = chance.choice((1, 2, 3, 4))
            house = (rooms, chance_doors(chance, rooms, chance.randint(1, 4)))
            met += self.through(chance, house, [chance.randint(0, 3) for _ in range(rooms)], 25)
        for name, *ends in (("bead", "told", "NoDoor", "NoWay", "Barred"), ("look", "told", "NoRoom", "Barred"),
                            ("seen", "told", "NoBead", "NoWay", "Known", "Barred"), ("strike", "told", "NoLook"),
                            ("mark", "told"), ("undo", "told", "NoMark")):
            for end in ends:
                self.assertGreater(met[name, end], 15, (name, end))

    def test_greater_halls(self):
        chance = random.Random(103)
        for rooms, folk, deeds in ((10, 3, 60), (6, 4, 120), (3, 12, 150), (5, 5, 150)):
            begin = [0] * rooms
            for _ in range(folk):
                begin[chance.randrange(rooms)] += 1
            self.through(chance, (rooms, chance_doors(chance, rooms, 24)), begin, deeds)

    def test_all_that_is_told_may_be_handed_in(self):
        chance = random.Random(104)
        house, begin, (row, _) = gone_tape(chance, 4, 6, 2, 20, 0)
        hall = self.made(house, begin, row, [(0, 0, 99)])
        self.assertIs(story_right(hall.house(), hall.begin(), hall.tape(), hall.story()), True)
        self.assertEqual(story(hall.house(), hall.begin(), hall.tape())[0], "story")
        again = Hall(hall.house(), hall.begin())
        for door, way in hall.tape()[0]:
            again.bead(door, way=way)
        self.same(again.sure(), hall.sure())


class EachOrder(Halls):

    def test_what_becomes_known_later_is_as_if_it_was_seen_at_once(self):
        chance = random.Random(105)
        for _ in range(40):
            house, begin, (row, looks) = gone_tape(chance, 4, 6, 2, 14, 0, seen=0.6)
            at_once = self.made(house, begin, row)
            later = self.made(house, begin, [(door, -1) for door, _ in row])
            for bead in chance.sample(range(14), 14):
                if row[bead][1] != -1:
                    later.seen(bead, row[bead][1])
            self.same(later.tape(), at_once.tape())
            self.same(later.sure(), at_once.sure())
            self.same(later.news(), at_once.news())

    def test_looks_of_all_orders(self):
        looks = [(0, 1, 3), (1, 2, 9), (0, 2, 2), (1, 0, 4)]
        for order in itertools.permutations(looks):
            hall = self.made(PAIR, [2, 4], [(0, -1)] * 2, order)
            self.same(hall.lot([0]), (2, 2))
            self.same(hall.tape()[1], [(2, *look) for look in order])
