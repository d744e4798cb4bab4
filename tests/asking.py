"""How the tests ask: by places and by names, and with an eye on every list that is handed in or told."""

import copy
import unittest


def lists_in(thing):
    """Each list within a thing, the thing itself too."""
    found = [thing] if isinstance(thing, list) else []
    if isinstance(thing, dict):
        thing = tuple(thing.values())
    if isinstance(thing, (list, tuple)):
        for part in thing:
            found += lists_in(part)
    return found


def wreck(thing):
    for rows in lists_in(thing):
        rows.reverse()
        rows.append("wrecked")


def kinds(thing):
    """The thing with each value's kind in its place, so that True is not 1 and a tuple no list."""
    if isinstance(thing, (list, tuple)):
        return type(thing)(kinds(part) for part in thing)
    return type(thing)


def turned_about(named):
    return dict(reversed(list(named.items())))


class Asking(unittest.TestCase):

    def told(self, function, **named):
        """What the function tells: the same by places, by names and by names turned about, in lists of its own."""
        before = copy.deepcopy(named)
        first = function(*named.values())
        self.assertEqual(named, before, "changed what was handed in")
        told = copy.deepcopy(first)
        self.own_lists(first, named)
        wreck(first)
        second = function(**named)
        third = function(**turned_about(named))
        for again in (second, third):
            self.same(again, told)
        self.own_lists((second, third), (named, first))
        self.assertEqual(named, before, "changed what was handed in")
        return told

    def refused(self, error, function, **named):
        """That the function refuses with just this error, by places and by names, and changes nothing."""
        before = copy.deepcopy(named)
        with self.assertRaises(error) as caught:
            function(*named.values())
        self.assertIs(type(caught.exception), error)
        with self.assertRaises(error) as caught:
            function(**turned_about(named))
        self.assertIs(type(caught.exception), error)
        self.assertEqual(named, before, "changed what was handed in")

    def own_lists(self, told, others):
        mine = [id(rows) for rows in lists_in(told)]
        theirs = [id(rows) for rows in lists_in(others)]
        self.assertEqual(len(mine), len(set(mine)), "one list was told twice")
        self.assertFalse(set(mine) & set(theirs), "a list was told that is not the asker's own")

    def same(self, told, wanted):
        """That two things are equal, down to their kinds."""
        self.assertEqual(told, wanted)
        self.assertEqual(kinds(told), kinds(wanted))

    def is_lot(self, lot, rooms):
        self.assertIs(type(lot), list)
        self.assertTrue(all(type(room) is int and 0 <= room < rooms for room in lot), lot)
        self.assertEqual(lot, sorted(set(lot)))
