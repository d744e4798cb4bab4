"""Point 9, and 3 as far as it speaks of counts: that no end is possible, and what a lot can have at the end."""

from bothdoors.counted import greatest, least, paper_of, shut
from bothdoors.errors import NoEnd

from tests.asking import Asking
from tests.plain import all_lots, empty_parts, leaving_plainly, possible_ends, shows
from tests.small import HUGE, big_cases, small_cases

LINE = (3, [(0, 1), (1, 2)])


def known(house, begin, counts):
    return {"house": house, "begin": begin, "counts": counts}


class Lots(Asking):

    def is_odds(self, paper, house, begin, counts):
        """That this is a paper of odds, of whichever lot, that holds."""
        self.assertIsInstance(paper, tuple)
        self.assertEqual((len(paper), paper[0]), (2, "odds"))
        self.is_lot(paper[1], house[0])
        self.assertLess(shows(house, begin, counts, [], paper[1]), 0)

    def is_greatest(self, told, house, begin, counts, asked, number):
        """That this number is told, with a lot about the asked one that shows it."""
        self.is_shown(told, house)
        self.assertEqual(told[0], number)
        self.assertEqual([room for room in asked if room not in told[1]], [])
        self.assertEqual(shows(house, begin, counts, asked, told[1]), number)

    def is_least(self, told, house, begin, counts, asked, number):
        """That this number is told, with a lot about the rooms beside the asked ones that shows theirs."""
        self.is_shown(told, house)
        self.assertEqual(told[0], number)
        beside = [room for room in range(house[0]) if room not in asked]
        self.assertEqual([room for room in beside if room not in told[1]], [])
        self.assertEqual(shows(house, begin, counts, beside, told[1]), sum(begin) - number)

    def is_shown(self, told, house):
        self.assertEqual((type(told), len(told)), (tuple, 2))
        self.assertIs(type(told[0]), int)
        self.is_lot(told[1], house[0])


class Shut(Lots):

    def test_none_where_some_end_is_possible(self):
        for house, begin, counts in (((1, []), [0], []), ((1, []), [HUGE], []), ((2, [(0, 1)]), [0, 1], [1]),
                                     ((2, [(0, 1)]), [0, 0], [0]), (LINE, [0, 1, 0], [1, 2]), ((3, []), [0] * 3, []),
                                     (LINE, [0, 0, 1], [2, 2]), (LINE, [0, 2, 0], [1, 1])):
            self.assertIsNone(self.told(shut, **known(house, begin, counts)))

    def test_parts_with_nobody(self):
        house = (6, [(4, 5), (3, 1), (2, 0), (0, 1)])
        self.same(self.told(shut, **known(house, [0] * 6, [2, 2, 2, 0])), ("nobody", [0, 2]))
        self.same(self.told(shut, **known(house, [0, 0, 1, 0, 0, 0], [2, 2, 2, 0])), ("nobody", [1, 3]))
        self.same(self.told(shut, **known(house, [1, 1, 0, 0, 0, 0], [1, 2, 2, 0])), ("nobody", [4, 5]))
        self.same(self.told(shut, **known(house, [0] * 6, [0, 2, 2, 2])), ("nobody", [0, 1, 2, 3]))
        self.same(self.told(shut, **known((2, [(0, 1)]), [0, 0], [HUGE - 1])), ("nobody", [0, 1]))
        self.same(self.told(shut, **known((2, [(0, 1)]), [0, 0], [1])), ("nobody", [0, 1]))

    def test_odds(self):
        # One goes in the middle, and each of three rooms about it met one: at least three must be there at the end.
        star = (4, [(0, 1), (2, 0), (0, 3)])
        for begin, counts in (([1, 0, 0, 0], [1, 1, 1]), ([1, 0, 0, 0], [1, 3, HUGE]), ([0, 0, 2, 0], [3, 3, 5]),
                              ([0, 1, 0, 0], [2, 1, 1])):
            self.is_odds(self.told(shut, **known(star, begin, counts)), star, begin, counts)
        for begin, counts in (([0, 1, 0, 0], [1, 1, 2]), ([3, 0, 0, 0], [1, 1, 1]), ([1, 0, 0, 0], [1, 2, 2])):
            self.assertIsNone(self.told(shut, **known(star, begin, counts)))

    def test_odds_of_some_of_the_rooms_only(self):
        # Beyond the long row many stand, but their door was passed too seldom for them to help.
        house, begin = (6, [(0, 1), (0, 2), (0, 3), (3, 4), (4, 5)]), [1, 0, 0, 0, 0, 9]
        for counts in ([1, 1, 1, 0, 2], [3, 1, 1, 0, 2], [1, 1, 1, 0, 4]):
            self.assertEqual(possible_ends(house, begin, counts), [])
            self.is_odds(self.told(shut, **known(house, begin, counts)), house, begin, counts)
        self.assertIsNone(self.told(shut, **known(house, begin, [1, 1, 1, 2, 2])))

    def test_nobody_goes_before_odds(self):
        house = (6, [(0, 1), (0, 2), (0, 3), (4, 5)])
        self.same(self.told(shut, **known(house, [1, 0, 0, 0, 0, 0], [1, 1, 1, 2])), ("nobody", [4, 5]))
        self.is_odds(self.told(shut, **known(house, [1, 0, 0, 0, 0, 1], [1, 1, 1, 2])), house, [1, 0, 0, 0, 0, 1],
                     [1, 1, 1, 2])

    def test_against_all_rows_of_goings_of_small_houses(self):
        odds = 0
        for house, begin, counts in small_cases():
            told = self.told(shut, **known(house, begin, counts))
            empty = empty_parts(house, begin, counts)
            if possible_ends(house, begin, counts):
                self.assertIsNone(told)
            elif empty:
                self.same(told, ("nobody", empty[0]))
            else:
                odds += 1
                self.is_odds(told, house, begin, counts)
        self.assertGreater(odds, 20)

    def test_ten_rooms_and_twenty_figures(self):
        kinds = {None: 0, "nobody": 0, "odds": 0}
        cases = [*big_cases(10), *big_cases(20, doors=12), *big_cases(80, doors=9, folk=1)]
        for house, begin, counts in cases:
            told = self.told(shut, **known(house, begin, counts))
            empty = empty_parts(house, begin, counts)
            if empty:
                self.same(told, ("nobody", empty[0]))
            elif min(shows(house, begin, counts, [], lot) for lot in all_lots(house[0])) < 0:
                self.is_odds(told, house, begin, counts)
            else:
                self.assertIsNone(told)
            kinds[told and told[0]] += 1
        self.assertGreater(min(kinds.values()), 3)

    def test_what_is_handed_in_is_taken_as_it_is_now(self):
        house, begin, counts = (2, [(0, 1)]), [0, 0], [2]
        self.assertEqual(shut(house, begin, counts), ("nobody", [0, 1]))
        begin[1] = 1
        self.assertIsNone(shut(house, begin, counts))


class Most(Lots):

    def ask(self, house, begin, counts, lot, low, high):
        """That the lot can have these at the least and at the greatest."""
        asked = known(house, begin, counts)
        self.is_greatest(self.told(greatest, **asked, lot=lot), house, begin, counts, lot, high)
        self.is_least(self.told(least, **asked, lot=lot), house, begin, counts, lot, low)

    def ask_once(self, house, begin, counts, lot, low, high):
        """The same, asked but once each, where there is much to ask."""
        self.is_greatest(greatest(house, begin, counts, lot), house, begin, counts, lot, high)
        self.is_least(least(house, begin, counts, lot), house, begin, counts, lot, low)

    def test_lots_of_a_small_house(self):
        self.ask(LINE, [1, 0, 0], [1, 0], [0], 0, 0)
        self.ask(LINE, [1, 0, 0], [1, 0], [1], 1, 1)
        self.ask(LINE, [4, 0, 0], [2, 2], [0], 2, 4)
        self.ask(LINE, [4, 0, 0], [2, 2], [1], 0, 2)
        self.ask(LINE, [4, 0, 0], [2, 2], [2], 0, 2)
        self.ask(LINE, [4, 0, 0], [2, 2], [0, 1], 2, 4)
        self.ask(LINE, [4, 0, 0], [2, 2], [0, 2], 2, 4)
        self.ask((2, [(0, 1)]), [3, 2], [4], [0], 1, 5)

    def test_rooms_beside_keep_one_where_they_had_and_met_an_odd_number(self):
        self.ask((2, [(0, 1)]), [3, 2], [3], [0], 0, 4)
        self.ask((2, [(0, 1)]), [3, 2], [9], [0], 0, 4)
        self.ask((2, [(0, 1)]), [3, 2], [9], [1], 1, 5)
        self.ask(LINE, [1, 1, 3], [9, 10], [1], 0, 4)

    def test_lots_of_no_rooms_and_of_all(self):
        for house, begin, counts in ((LINE, [1, 0, 0], [1, 0]), ((1, []), [0], []), ((1, []), [HUGE], []),
                                     ((2, [(0, 1)]), [3, 2], [3]), ((3, []), [2, 0, 1], []),
                                     ((2, [(0, 1)]), [HUGE, HUGE], [HUGE])):
            self.ask(house, begin, counts, [], 0, 0)
            self.ask(house, begin, counts, list(range(house[0])), sum(begin), sum(begin))

    def test_lots_of_which_a_wider_one_shows_the_greatest(self):
        house, begin, counts = (4, [(0, 1), (1, 2), (2, 3)]), [1, 0, 0, 9], [9, 8, 2]
        self.assertGreater(shows(house, begin, counts, [0], [0]), shows(house, begin, counts, [0], [0, 1, 2]))
        self.ask(house, begin, counts, [0], 0, 2)
        self.ask(house, begin, counts, [0, 1, 2], 1, 3)
        self.ask(house, begin, counts, [3], 7, 9)

    def test_refused_where_no_end_is_possible(self):
        star = (4, [(0, 1), (2, 0), (0, 3)])
        for house, begin, counts in (((2, [(0, 1)]), [0, 0], [2]), (star, [1, 0, 0, 0], [1, 1, 1]),
                                     (star, [1, 0, 0, 0], [HUGE] * 3), ((4, [(0, 1), (3, 2)]), [0, 1, 0, 0], [1, 1])):
            for lot in all_lots(house[0]):
                for function in (greatest, least):
                    self.refused(NoEnd, function, **known(house, begin, counts), lot=lot)

    def test_against_all_ends_of_small_houses(self):
        for at, (house, begin, counts) in enumerate(small_cases()):
            ends = possible_ends(house, begin, counts)
            for lot in all_lots(house[0]):
                if not ends:
                    for function in (greatest, least):
                        self.refused(NoEnd, function, **known(house, begin, counts), lot=lot)
                    continue
                sums = [sum(end[room] for room in lot) for end in ends]
                (self.ask_once if at % 9 else self.ask)(house, begin, counts, lot, min(sums), max(sums))

    def test_a_lot_can_have_just_every_second_number(self):
        for house, begin, counts in list(small_cases())[::3]:
            ends = possible_ends(house, begin, counts)
            for lot in all_lots(house[0]) if ends else []:
                low, high = least(house, begin, counts, lot)[0], greatest(house, begin, counts, lot)[0]
                sums = {sum(end[room] for room in lot) for end in ends}
                self.assertEqual(sorted(sums), list(range(low, high + 1, 2)))

    def test_numbers_of_twenty_figures(self):
        house = (2, [(0, 1)])
        self.ask(house, [HUGE, HUGE], [HUGE], [0], 0, 2 * HUGE)
        self.ask(house, [HUGE, 0], [HUGE - 1], [0], 1, HUGE)
        self.ask(house, [HUGE, 5], [HUGE - 1], [1], 1, HUGE + 4)
        self.ask(house, [1, 0], [HUGE], [0], 0, 0)

    def test_ten_rooms_and_twenty_four_doors(self):
        asked = 0
        cases = [*big_cases(6), *big_cases(6, count=HUGE // 12)]
        cases += [*big_cases(30, doors=9), *big_cases(30, folk=3, count=3)]
        for at, (house, begin, counts) in enumerate(cases):
            lots = all_lots(house[0])
            bounds = [shows(house, begin, counts, [], lot) for lot in lots]
            for lot in (lots[at], lots[-1 - at], lots[(at * 37) % len(lots)], [], lots[-1]):
                if empty_parts(house, begin, counts) or min(bounds) < 0:
                    self.refused(NoEnd, greatest, **known(house, begin, counts), lot=lot)
                    self.refused(NoEnd, least, **known(house, begin, counts), lot=lot)
                    continue
                asked += 1
                beside = [room for room in lots[-1] if room not in lot]
                high, rest = [min(shows(house, begin, counts, some, about) for about in lots if set(some) <= set(about))
                              for some in (lot, beside)]
                (self.ask_once if asked % 9 else self.ask)(house, begin, counts, lot, sum(begin) - rest, high)
        self.assertGreater(asked, 60)

    def test_the_told_lot_is_not_the_asked_one(self):
        house, begin, counts = (2, [(0, 1)]), [4, 0], [1]
        lot = [0, 1]
        for function in (greatest, least):
            told = function(house, begin, counts, lot)[1]
            self.assertIsNot(told, lot)
            told.append(7)
            self.assertEqual(lot, [0, 1])

    def test_what_is_handed_in_is_taken_as_it_is_now(self):
        house, begin, counts, lot = (2, [(0, 1)]), [4, 0], [1], [0]
        self.assertEqual(greatest(house, begin, counts, lot)[0], 5 - 2)
        counts[0] = 2
        self.assertEqual(greatest(house, begin, counts, lot)[0], 4)
        self.assertEqual(least(house, begin, counts, lot)[0], 2)
        lot[0] = 1
        self.assertEqual(greatest(house, begin, counts, lot)[0], 2)
        begin[:] = [0, 0]
        self.refused(NoEnd, greatest, house=house, begin=begin, counts=counts, lot=lot)
