"""Points 6 to 8, and 3 as far as it speaks of counts: ends that are possible, and papers of those that are not."""

import random

from bothdoors.counted import holds, paper_of

from tests.asking import Asking
from tests.plain import all_lots, lot_holds, lot_papers, plain_papers, possible_ends, split_exists
from tests.small import HUGE, big_cases, near_ends, small_cases, split_end

# Two parts of two rooms, a room by itself, and a door that nobody passed.
PAIRS = (5, [(0, 1), (2, 3), (1, 2), (3, 4)])
ROUND = (3, [(0, 1), (1, 2), (2, 0)])
# Here most rooms can keep up with their doors.
BALANCED = [*big_cases(20, count=HUGE // 12), *big_cases(30, doors=14, count=HUGE // 9), *big_cases(30, doors=9),
            *big_cases(30, folk=9, count=2)]


class Papers(Asking):

    def paper(self, house, begin, counts, end):
        return self.told(paper_of, house=house, begin=begin, counts=counts, end=end)

    def is_lot_paper(self, paper, house, begin, counts, end):
        """That this is a paper of a lot, whichever, that holds."""
        self.assertIsInstance(paper, tuple)
        self.assertEqual((len(paper), paper[0]), (2, "lot"))
        self.is_lot(paper[1], house[0])
        self.assertTrue(lot_holds(house, begin, counts, end, paper[1]), paper)


class Told(Papers):

    def test_an_end_to_which_goings_lead_has_none(self):
        self.assertIsNone(self.paper((2, [(0, 1)]), [1, 0], [1], [0, 1]))
        self.assertIsNone(self.paper((2, [(0, 1)]), [1, 0], [2], [1, 0]))
        self.assertIsNone(self.paper((2, [(0, 1)]), [1, 0], [0], [1, 0]))
        self.assertIsNone(self.paper(ROUND, [2, 0, 1], [2, 2, 2], [0, 2, 1]))
        self.assertIsNone(self.paper((1, []), [0], [], [0]))
        self.assertIsNone(self.paper((1, []), [HUGE], [], [HUGE]))
        self.assertIsNone(self.paper((3, []), [1, 0, 2], [], [1, 0, 2]))

    def test_one_alone_goes_round_before_he_stays(self):
        # He is in the first room at the end, and every door was passed: he must go all round, whichever way.
        self.assertIsNone(self.paper(ROUND, [1, 0, 0], [1, 1, 1], [1, 0, 0]))
        self.assertIsNone(self.paper((3, [(0, 1), (1, 2)]), [1, 0, 0], [1, 8], [0, 1, 0]))
        self.assertIsNone(self.paper((4, [(0, 1), (1, 2), (1, 3)]), [0, 0, 0, 1], [2, 2, 2], [0, 0, 0, 1]))

    def test_each_kind(self):
        self.same(self.paper((2, [(0, 1)]), [1, 0], [1], [1, 1]), ("folk",))
        self.same(self.paper((2, [(0, 1)]), [1, 0], [3], [2, -1]), ("below", 1))
        self.same(self.paper((2, [(0, 1)]), [1, 0], [1], [1, 0]), ("odd", 0))
        self.same(self.paper((2, [(0, 1)]), [0, 0], [2], [0, 0]), ("nobody", [0, 1]))
        self.is_lot_paper(self.paper((2, [(0, 1)]), [4, 0], [2], [0, 4]), (2, [(0, 1)]), [4, 0], [2], [0, 4])

    def test_the_first_kind_goes_first(self):
        house, begin, counts = PAIRS, [0, 0, 4, 0, 0], [2, 2, 0, 0]
        self.same(self.paper(house, begin, counts, [0, 0, 4, -1, 0]), ("folk",))
        self.same(self.paper(house, begin, counts, [0, 0, 5, 0, -1]), ("below", 4))
        self.same(self.paper(house, begin, counts, [0, 0, 3, 0, 1]), ("odd", 2))
        self.same(self.paper(house, begin, counts, [0, 0, 0, 0, 4]), ("nobody", [0, 1]))
        begin = [4, 0, 0, 0, 0]
        self.same(self.paper(house, begin, counts, [0, 0, 0, 0, 4]), ("nobody", [2, 3]))
        begin = [4, 0, 2, 0, 0]
        told = self.paper(house, begin, counts, [0, 4, 2, 0, 0])
        self.is_lot_paper(told, house, begin, counts, [0, 4, 2, 0, 0])

    def test_below_and_odd_name_the_least_room(self):
        self.same(self.paper((4, []), [1, 1, 1, 1], [], [6, -1, -1, 0]), ("below", 1))
        self.same(self.paper((4, []), [1, 1, 1, 1], [], [-7, 6, 6, -1]), ("below", 0))
        self.same(self.paper((4, []), [1, 1, 1, 1], [], [6, 0, 0, -2]), ("below", 3))
        self.same(self.paper((4, []), [1, 1, 1, 1], [], [1, 2, 1, 0]), ("odd", 1))
        self.same(self.paper((4, []), [1, 1, 1, 1], [], [0, 2, 2, 0]), ("odd", 0))
        self.same(self.paper((4, []), [1, 1, 1, 1], [], [1, 1, 2, 0]), ("odd", 2))

    def test_nobody_names_the_part_with_the_least_room(self):
        house = (6, [(4, 5), (3, 1), (2, 0), (0, 1)])
        self.same(self.paper(house, [0] * 6, [2, 2, 2, 0], [0] * 6), ("nobody", [0, 2]))
        self.same(self.paper(house, [1, 0, 0, 0, 0, 0], [2, 2, 2, 0], [1, 0, 0, 0, 0, 0]), ("nobody", [1, 3]))
        self.same(self.paper(house, [1, 0, 0, 1, 0, 0], [2, 2, 2, 0], [1, 0, 0, 1, 0, 0]), ("nobody", [4, 5]))
        self.same(self.paper(house, [0] * 6, [0, 2, 2, 2], [0] * 6), ("nobody", [0, 1, 2, 3]))

    def test_an_empty_room_by_itself_is_no_paper(self):
        self.assertIsNone(self.paper((3, [(0, 1)]), [0, 0, 0], [0], [0, 0, 0]))
        self.assertIsNone(self.paper((3, [(0, 1)]), [0, 1, 0], [2], [0, 1, 0]))

    def test_a_lot_that_lost_too_many_and_one_that_gained_too_many(self):
        house, counts = (4, [(0, 1), (1, 2), (2, 3)]), [2, 2, 2]
        for begin, end in (([6, 0, 0, 0], [0, 2, 2, 2]), ([0, 2, 2, 2], [6, 0, 0, 0]), ([4, 4, 0, 0], [2, 2, 2, 2]),
                           ([2, 2, 2, 2], [0, 0, 4, 4]), ([0, 8, 0, 0], [0, 2, 6, 0])):
            self.is_lot_paper(self.paper(house, begin, counts, end), house, begin, counts, end)
        self.assertIsNone(self.paper(house, [4, 0, 0, 4], counts, [2, 2, 2, 2]))
        self.assertIsNone(self.paper(house, [2, 2, 2, 2], counts, [0, 2, 2, 4]))

    def test_a_lot_of_several_rooms_where_each_room_alone_is_right(self):
        house, counts = (4, [(0, 1), (1, 2), (2, 3)]), [8, 2, 8]
        begin, end = [4, 4, 0, 0], [2, 2, 2, 2]
        self.assertFalse(any(lot_holds(house, begin, counts, end, [room]) for room in range(4)))
        self.is_lot_paper(self.paper(house, begin, counts, end), house, begin, counts, end)

    def test_against_all_rows_of_goings_of_small_houses(self):
        chance = random.Random(8)
        for house, begin, counts in small_cases():
            ends = possible_ends(house, begin, counts)
            asked = near_ends(house[0], sum(begin))
            asked = ends[:4] + chance.sample(asked, min(len(asked), 12))
            for end in asked:
                papers = plain_papers(house, begin, counts, end)
                told = paper_of(house, begin, counts, end)
                if end in ends:
                    self.assertEqual((papers, lot_papers(house, begin, counts, end)), ([], []))
                    self.assertIsNone(told, (house, begin, counts, end))
                elif papers:
                    self.same(told, papers[0])
                else:
                    self.is_lot_paper(told, house, begin, counts, end)

    def test_none_of_just_the_ends_to_which_goings_lead(self):
        for house, begin, counts in list(small_cases())[::9]:
            asked = near_ends(house[0], sum(begin))
            free = [end for end in asked if paper_of(house, begin, counts, end) is None]
            self.assertEqual(sorted(free), possible_ends(house, begin, counts), (house, begin, counts))

    def test_with_other_folk_at_the_end(self):
        chance = random.Random(9)
        for house, begin, counts in list(small_cases())[::5]:
            end = [number + chance.choice((-2, -1, 0, 1, 2)) for number in begin]
            papers = plain_papers(house, begin, counts, end)
            if sum(begin) != sum(end):
                self.same(self.paper(house, begin, counts, end), ("folk",))
            elif papers:
                self.same(self.paper(house, begin, counts, end), papers[0])

    def test_read_backwards_all_is_as_possible(self):
        for house, begin, counts in list(small_cases())[::6]:
            for end in near_ends(house[0], sum(begin))[::5]:
                if min(end) >= 0:
                    there, back = paper_of(house, begin, counts, end), paper_of(house, end, counts, begin)
                    self.assertEqual(there is None, back is None)

    def test_what_is_handed_in_is_taken_as_it_is_now(self):
        house, begin, counts, end = (2, [(0, 1)]), [1, 0], [1], [0, 1]
        self.assertIsNone(paper_of(house, begin, counts, end))
        counts[0] = 2
        self.assertEqual(paper_of(house, begin, counts, end), ("odd", 0))
        end[:] = [1, 0]
        self.assertIsNone(paper_of(house, begin, counts, end))
        begin[:] = [0, 1]
        house[1].append((1, 0))
        counts.append(0)
        self.assertEqual(paper_of(house, begin, counts, end), ("odd", 0))


class Huge(Papers):

    def test_numbers_of_twenty_figures(self):
        house = (2, [(0, 1)])
        self.assertIsNone(self.paper(house, [HUGE, 0], [HUGE], [0, HUGE]))
        self.assertIsNone(self.paper(house, [1, 0], [HUGE], [0, 1]))
        self.same(self.paper(house, [HUGE, 0], [HUGE], [0, HUGE - 1]), ("folk",))
        self.same(self.paper(house, [HUGE, 0], [HUGE], [HUGE + 1, -1]), ("below", 1))
        self.same(self.paper(house, [0, HUGE], [HUGE], [-HUGE, 2 * HUGE]), ("below", 0))
        self.same(self.paper(house, [HUGE, 0], [HUGE], [1, HUGE - 1]), ("odd", 0))
        end = [0, HUGE]
        self.is_lot_paper(self.paper(house, [HUGE, 0], [HUGE - 2], end), house, [HUGE, 0], [HUGE - 2], end)

    def test_ten_rooms_and_twenty_four_doors(self):
        chance = random.Random(12)
        free = 0
        for house, begin, counts in [*big_cases(10), *BALANCED]:
            for _ in range(3):
                end = split_end(chance, house, begin, counts)
                papers = plain_papers(house, begin, counts, end)
                self.assertEqual([paper for paper in papers if paper[0] in ("folk", "odd")], [])
                self.same(self.paper(house, begin, counts, end), papers[0] if papers else None)
                free += not papers
        self.assertGreater(free, 50)

    def test_ten_rooms_of_which_two_won_and_lost_more(self):
        chance = random.Random(13)
        lots = free = 0
        for house, begin, counts in [*big_cases(10), *BALANCED] * 4:
            end = split_end(chance, house, begin, counts)
            loser, winner = sorted(chance.sample(range(10), 2), key=lambda room: -end[room])
            more = chance.choice((2, max(end[loser], 0) // 2 * 2, max(end[loser], 0) // 20 * 2))
            end[loser] -= more
            end[winner] += more
            papers = plain_papers(house, begin, counts, end)
            told = self.paper(house, begin, counts, end)
            if papers:
                self.same(told, papers[0])
            elif split_exists(house, begin, counts, end):
                free += 1
                self.assertIsNone(told)
            else:
                lots += 1
                self.is_lot_paper(told, house, begin, counts, end)
        self.assertGreater(lots, 20)
        self.assertGreater(free, 10)


class Holds(Papers):

    def holding(self, house, begin, counts, end, *papers):
        for paper in papers:
            told = self.told(holds, house=house, begin=begin, counts=counts, end=end, paper=paper)
            self.assertIs(told, True, paper)

    def not_holding(self, house, begin, counts, end, *papers):
        for paper in papers:
            told = self.told(holds, house=house, begin=begin, counts=counts, end=end, paper=paper)
            self.assertIs(told, False, paper)

    def test_each_kind(self):
        house = PAIRS
        self.holding(house, [1, 0, 0, 0, 1], [2, 1, 0, 0], [1, 0, 0, -4, 0], ("folk",), ("below", 3), ("odd", 2),
                     ("odd", 3), ("odd", 4), ("nobody", [2, 3]), ("lot", [3]), ("lot", [4]), ("lot", [2, 3]))
        self.not_holding(house, [1, 0, 0, 0, 1], [2, 1, 0, 0], [1, 0, 0, -4, 0], ("below", 0), ("below", 2),
                         ("odd", 0), ("odd", 1), ("nobody", [0, 1]), ("nobody", [0]), ("nobody", [4]),
                         ("lot", [0]), ("lot", [0, 1]), ("lot", [2]), ("lot", []))
        self.not_holding(house, [1, 0, 1, 0, 1], [2, 2, 0, 0], [1, 0, 1, 0, 1], ("folk",), ("below", 3), ("odd", 2),
                         ("nobody", [2, 3]), ("lot", [3]), ("lot", [0, 1, 2, 3, 4]))

    def test_a_lot_that_lost_and_one_that_gained_just_so_much_and_more(self):
        house, counts = (3, [(0, 1), (1, 2)]), [3, 4]
        for end, lot in (([0, 9, 5], [0]), ([8, 1, 5], [0]), ([4, 0, 10], [2]), ([4, 10, 0], [2]),
                         ([4, 0, 10], [0, 1])):
            self.holding(house, [4, 5, 5], counts, end, ("lot", lot))
        self.not_holding(house, [4, 5, 5], counts, [1, 8, 5], ("lot", [0]))
        self.holding(house, [4, 5, 5], counts, [0, 9, 5], ("lot", [0]))
        self.not_holding(house, [4, 5, 5], counts, [7, 2, 5], ("lot", [0]))
        self.holding(house, [4, 5, 5], counts, [8, 1, 5], ("lot", [0]))
        self.holding(house, [4, 5, 5], counts, [4, 5, 6], ("lot", [0, 1, 2]), ("folk",))
        self.holding(house, [4, 5, 5], counts, [4, 5, 4], ("lot", [0, 1, 2]), ("folk",))
        self.not_holding(house, [4, 5, 5], counts, [5, 5, 4], ("lot", [0, 1, 2]), ("folk",))

    def test_nobody_is_of_a_whole_part_of_more_than_one_room(self):
        house, begin, end = (6, [(0, 1), (1, 2), (3, 4)]), [0] * 6, [0] * 6
        self.holding(house, begin, [1, 1, 1], end, ("nobody", [0, 1, 2]), ("nobody", [3, 4]))
        self.not_holding(house, begin, [1, 1, 1], end, ("nobody", [0, 1]), ("nobody", [1, 2]), ("nobody", [0, 2]),
                         ("nobody", [0, 1, 2, 3, 4]), ("nobody", [3]), ("nobody", [5]), ("nobody", [3, 4, 5]),
                         ("nobody", [0, 1, 2, 3]), ("nobody", [0, 1, 2, 3, 4, 5]), ("nobody", []))
        self.holding(house, begin, [1, 0, 0], end, ("nobody", [0, 1]))
        self.not_holding(house, begin, [1, 0, 0], end, ("nobody", [0, 1, 2]), ("nobody", [3, 4]), ("nobody", [2]))
        for room in range(3):
            begin = [int(one == room) for one in range(6)]
            self.not_holding(house, begin, [1, 1, 1], end, ("nobody", [0, 1, 2]))
            self.holding(house, begin, [1, 1, 1], end, ("nobody", [3, 4]))

    def test_nobody_is_of_the_beginning_not_of_the_end(self):
        house = (2, [(0, 1)])
        self.holding(house, [0, 0], [2], [1, 1], ("nobody", [0, 1]))
        self.not_holding(house, [1, 1], [2], [0, 0], ("nobody", [0, 1]))

    def test_rooms_that_are_none(self):
        # Read from behind, or past the last, each of these would hold.
        house, begin, counts, end = (3, [(0, 1), (1, 2)]), [0, 0, 0], [1, 0], [-5, -6, -7]
        self.holding(house, begin, counts, end, ("below", 0), ("odd", 1), ("odd", 2), ("lot", [2]), ("lot", [0, 1]),
                     ("nobody", [0, 1]))
        for room in (-1, -2, -3, -4, 3, 4, 10, 11, 999, HUGE, -HUGE, 2 ** 63, 2 ** 64):
            self.not_holding(house, begin, counts, end, ("below", room), ("odd", room), ("lot", [room]),
                             ("nobody", [room]), ("lot", sorted([room, 2])), ("lot", sorted([0, 1, room])),
                             ("nobody", sorted([0, 1, room])), ("lot", sorted([0, 1, 2, room])))
        self.not_holding(house, begin, counts, end, ("lot", [-3, -2, -1]), ("nobody", [-3, -2]), ("nobody", [-3, 1]),
                         ("lot", [-1, HUGE]), ("nobody", [-HUGE, HUGE]), ("lot", [-1, 0, 1, 2, 3]))

    def test_rooms_that_are_none_where_numbers_are_huge(self):
        self.not_holding((1, []), [0], [], [-HUGE], ("below", 1), ("below", -1), ("odd", -1), ("lot", [-1]),
                         ("lot", [1]), ("lot", [0, 1]))
        self.holding((1, []), [0], [], [-HUGE], ("below", 0), ("odd", 0), ("lot", [0]), ("folk",))

    def test_papers_of_other_kinds(self):
        # The lot lost and gained more than leaves it; but such papers say nothing of an end.
        self.holding((2, [(0, 1)]), [0, 9], [1], [9, 0], ("lot", [0]), ("lot", [1]))
        self.not_holding((2, [(0, 1)]), [0, 9], [1], [9, 0], ("odds", [0]), ("odds", [1]), ("look", 0, 0),
                         ("many", [(0, 1, 1)]), ("few", []), ("", [0]))

    def test_lots_of_no_rooms(self):
        for end in ([4, 4], [0, 0], [1, 0], [-3, -3]):
            self.not_holding((2, [(0, 1)]), [1, 0], [1], end, ("lot", []), ("nobody", []))
            self.not_holding((2, []), [0, 0], [], end, ("lot", []), ("nobody", []))

    def test_numbers_of_twenty_figures(self):
        house, begin, counts = (2, [(0, 1)]), [HUGE, HUGE - 1], [HUGE - 5]
        self.holding(house, begin, counts, [4, HUGE], ("lot", [0]), ("folk",), ("odd", 0), ("odd", 1))
        self.not_holding(house, begin, counts, [5, HUGE], ("lot", [0]), ("below", 0), ("odd", 0), ("lot", [1]))
        self.holding(house, begin, counts, [-HUGE, HUGE], ("lot", [0]), ("below", 0))

    def test_against_plain_sums_whatever_else_is_amiss(self):
        chance = random.Random(14)
        cases = list(small_cases())[::4] + list(big_cases(8, rooms=6, doors=8)) + list(big_cases(8, rooms=6, doors=4))
        for house, begin, counts in cases:
            end = split_end(chance, house, begin, counts)
            if chance.random() < 0.6:
                end = [number + chance.choice((-3, -1, 0, 0, 1, 2)) for number in end]
            papers = plain_papers(house, begin, counts, end) + lot_papers(house, begin, counts, end)
            rooms, lots = range(house[0]), all_lots(house[0])
            asked = [("folk",)] + [(kind, room) for kind in ("below", "odd") for room in rooms]
            for paper in asked + [(kind, lot) for kind in ("nobody", "lot") for lot in lots]:
                told = holds(house, begin, counts, end, paper)
                self.assertIs(told, paper in papers, (house, begin, counts, end, paper))

    def test_what_paper_of_tells_holds(self):
        for house, begin, counts in list(small_cases())[::6]:
            for end in near_ends(house[0], sum(begin))[::4]:
                paper = paper_of(house, begin, counts, end)
                if paper is not None:
                    self.assertIs(holds(house, begin, counts, end, paper), True)

    def test_what_is_handed_in_is_taken_as_it_is_now(self):
        house, begin, counts, end, paper = (2, [(0, 1)]), [1, 0], [0], [0, 1], ("lot", [0])
        self.assertIs(holds(house, begin, counts, end, paper), True)
        counts[0] = 1
        self.assertIs(holds(house, begin, counts, end, paper), False)
        end[0] = 3
        self.assertIs(holds(house, begin, counts, end, paper), True)
        paper[1].clear()
        self.assertIs(holds(house, begin, counts, end, paper), False)
