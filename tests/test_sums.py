"""Point 5: what rooms met, what leaves a lot, and parts."""

from bothdoors.houses import leaving, met, parts

from tests.asking import Asking
from tests.plain import all_lots, leaving_plainly, met_plainly, parts_plainly
from tests.small import HUGE, big_cases, small_cases

ROUND = (4, [(0, 1), (1, 2), (2, 0), (2, 3), (3, 2)])


class Met(Asking):

    def test_a_room_meets_the_counts_of_its_doors(self):
        self.same(self.told(met, house=ROUND, counts=[1, 2, 4, 8, 16]), [5, 3, 30, 24])

    def test_counts_of_nought_and_rooms_without_doors(self):
        self.same(self.told(met, house=ROUND, counts=[0, 0, 0, 0, 0]), [0, 0, 0, 0])
        self.same(self.told(met, house=(3, []), counts=[]), [0, 0, 0])
        self.same(self.told(met, house=(3, [(0, 2)]), counts=[7]), [7, 0, 7])

    def test_counts_of_twenty_figures(self):
        self.same(self.told(met, house=(2, [(0, 1), (1, 0)]), counts=[HUGE, HUGE - 1]), [2 * HUGE - 1] * 2)

    def test_against_plain_sums(self):
        for house, _, counts in list(small_cases())[::7] + list(big_cases(40)):
            self.same(self.told(met, house=house, counts=counts), met_plainly(house, counts))

    def test_counts_that_changed_are_summed_as_they_are_now(self):
        counts = [1, 2, 4, 8, 16]
        met(ROUND, counts)
        counts[0] = 3
        self.same(met(ROUND, counts), [7, 5, 30, 24])


class Leaving(Asking):

    def test_what_leaves_a_lot(self):
        for lot, wanted in (([0], 5), ([2], 30), ([0, 1], 6), ([1, 3], 27), ([0, 1, 2], 24), ([0, 2], 27)):
            self.same(self.told(leaving, house=ROUND, counts=[1, 2, 4, 8, 16], lot=lot), wanted)

    def test_nothing_leaves_no_rooms_and_all_rooms(self):
        for lot in ([], [0, 1, 2, 3]):
            self.same(self.told(leaving, house=ROUND, counts=[1, 2, 4, 8, 16], lot=lot), 0)
        self.same(self.told(leaving, house=(1, []), counts=[], lot=[]), 0)
        self.same(self.told(leaving, house=(1, []), counts=[], lot=[0]), 0)

    def test_counts_of_nought_and_of_twenty_figures(self):
        house = (3, [(0, 1), (2, 1), (0, 2)])
        self.same(self.told(leaving, house=house, counts=[HUGE, HUGE, 0], lot=[1]), 2 * HUGE)
        self.same(self.told(leaving, house=house, counts=[HUGE, HUGE, 0], lot=[0]), HUGE)
        self.same(self.told(leaving, house=house, counts=[0, 0, 0], lot=[0]), 0)

    def test_against_plain_sums(self):
        for house, _, counts in list(small_cases())[::11]:
            for lot in all_lots(house[0]):
                self.same(self.told(leaving, house=house, counts=counts, lot=lot), leaving_plainly(house, counts, lot))
        for house, _, counts in big_cases(6):
            for lot in all_lots(house[0]):
                self.same(leaving(house, counts, lot), leaving_plainly(house, counts, lot))

    def test_lots_and_counts_that_changed_are_taken_as_they_are_now(self):
        counts, lot = [1, 2, 4, 8, 16], [0]
        leaving(ROUND, counts, lot)
        counts[0] = 3
        self.same(leaving(ROUND, counts, lot), 7)
        lot.append(1)
        self.same(leaving(ROUND, counts, lot), 6)


class Parts(Asking):

    def test_parts_hang_together_by_doors_that_were_passed(self):
        self.same(self.told(parts, house=ROUND, counts=[1, 1, 1, 1, 1]), [[0, 1, 2, 3]])
        self.same(self.told(parts, house=ROUND, counts=[1, 0, 0, 0, 1]), [[0, 1], [2, 3]])
        self.same(self.told(parts, house=ROUND, counts=[0, 0, 9, 0, 0]), [[0, 2], [1], [3]])

    def test_a_room_whose_doors_were_not_passed_is_one(self):
        self.same(self.told(parts, house=ROUND, counts=[0, 0, 0, 0, 0]), [[0], [1], [2], [3]])
        self.same(self.told(parts, house=(3, []), counts=[]), [[0], [1], [2]])
        self.same(self.told(parts, house=(1, []), counts=[]), [[0]])
        self.same(self.told(parts, house=(3, [(2, 0), (0, 1)]), counts=[HUGE, 0]), [[0, 2], [1]])

    def test_parts_that_grow_together_late(self):
        house = (6, [(5, 4), (3, 2), (1, 0), (4, 3), (0, 5)])
        self.same(self.told(parts, house=house, counts=[1, 1, 1, 1, 0]), [[0, 1], [2, 3, 4, 5]])
        self.same(self.told(parts, house=house, counts=[1, 1, 1, 1, 1]), [[0, 1, 2, 3, 4, 5]])
        self.same(self.told(parts, house=house, counts=[1, 1, 1, 0, 1]), [[0, 1, 4, 5], [2, 3]])

    def test_a_row_of_rooms_in_any_order_of_doors(self):
        doors = [(room, room + 1) for room in range(9)]
        for turn in range(9):
            house = (10, doors[turn:] + doors[:turn][::-1])
            self.same(parts(house, [1] * 9), [list(range(10))])

    def test_against_plain_marking(self):
        for house, _, counts in list(small_cases())[::7] + list(big_cases(60)) + list(big_cases(60, doors=9)):
            self.same(self.told(parts, house=house, counts=counts), parts_plainly(house, counts))

    def test_counts_that_changed_are_taken_as_they_are_now(self):
        counts = [0, 0, 0, 0, 0]
        parts(ROUND, counts)
        counts[0] = 3
        self.same(parts(ROUND, counts), [[0, 1], [2], [3]])
