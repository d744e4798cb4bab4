"""The hall: a house that beads and looks are told of as they come, kept so that there always is a story."""

from bothdoors.errors import Barred, Known, NoBead, NoDoor, NoLook, NoMark, NoMoment, NoRoom, NoWay
from bothdoors.laying import laid, span_at, span_of, sure_ways


class Hall:
    """A house, a beginning and a tape that has a story."""

    def __init__(self, house, begin):
        self._house = (house[0], list(house[1]))
        self._begin = list(begin)
        # These lists are never changed: others are put in their places, so that marks may keep them as they are.
        self._beads = []
        self._looks = []
        self._ways = []
        self._marks = []
        self._news = [(had, had) for had in begin]

    def bead(self, door, *, way=-1):
        """A bead falls at the door; told is its number."""
        if not 0 <= door < len(self._house[1]):
            raise NoDoor("the house has no such door")
        if way not in (-1, 0, 1):
            raise NoWay("a way is 0 or 1, or -1 where it was not seen")
        self._change(self._beads + [(door, way)], self._looks)
        return len(self._beads) - 1

    def look(self, room, least, most):
        """A look at the room shows that it now has so many at least and at most; told is the look's number."""
        self._check_rooms([room])
        self._change(self._beads, self._looks + [(len(self._beads), room, least, most)])
        return len(self._looks) - 1

    def seen(self, bead, way):
        """The bead's way becomes known."""
        if not 0 <= bead < len(self._beads):
            raise NoBead("no such bead fell")
        if way not in (0, 1):
            raise NoWay("a way that becomes known is 0 or 1")
        door, known = self._beads[bead]
        if known not in (-1, way):
            raise Known("the bead's way is known to be the other one")
        self._change(self._beads[:bead] + [(door, way)] + self._beads[bead + 1:], self._looks)

    def strike(self, look):
        """The look is struck."""
        if not 0 <= look < len(self._looks):
            raise NoLook("no such look was told")
        self._looks = self._looks[:look] + self._looks[look + 1:]

    def mark(self):
        """The hall is marked as it is now; told is the mark's number."""
        self._marks = self._marks + [(self._beads, self._looks, self._ways)]
        return len(self._marks) - 1

    def undo(self, mark):
        """Makes tape and marks as they were when the mark was made."""
        if not 0 <= mark < len(self._marks):
            raise NoMark("the hall has no such mark")
        self._beads, self._looks, self._ways = self._marks[mark]
        self._marks = self._marks[:mark + 1]

    def house(self):
        """The house."""
        return self._house[0], list(self._house[1])

    def begin(self):
        """The beginning."""
        return list(self._begin)

    def tape(self):
        """The tape up to now."""
        return list(self._beads), list(self._looks)

    def story(self):
        """A story of the tape."""
        return list(self._ways)

    def room(self, room, moment):
        """The least and the greatest number that the room can have behind so many beads."""
        self._check_rooms([room])
        if not 0 <= moment <= len(self._beads):
            raise NoMoment("the tape has no such moment")
        return span_at(self._chains(), room, moment)

    def lot(self, rooms):
        """The least and the greatest number that the lot can have now."""
        self._check_rooms(rooms)
        return span_of(self._chains(), rooms)

    def sure(self):
        """For each bead the way that it has in all stories, -1 where it can have either."""
        return sure_ways(self._chains())

    def end(self, numbers):
        """A story that leads to these numbers, or a paper that they are not possible now."""
        now = len(self._beads)
        looks = [(now, room, number, number) for room, number in enumerate(numbers)]
        chains, paper = laid(self._house, self._begin, (self._beads, self._looks + looks), self._ways)
        return ("paper", paper) if chains is None else ("story", chains.ways())

    def news(self):
        """(room, least, greatest) of each room that can have other numbers now than when news were told last."""
        chains = self._chains()
        before = self._news
        self._news = [span_at(chains, room, len(self._beads)) for room in range(self._house[0])]
        return [(room, least, greatest) for room, (least, greatest) in enumerate(self._news)
                if (least, greatest) != before[room]]

    def _chains(self):
        """The chains of the tape, which has a story."""
        chains, _ = laid(self._house, self._begin, (self._beads, self._looks), self._ways)
        return chains

    def _change(self, beads, looks):
        """Puts another tape in the place of the one that was, if it has a story."""
        chains, paper = laid(self._house, self._begin, (beads, looks), self._ways)
        if chains is None:
            raise Barred(paper)
        self._beads = beads
        self._looks = looks
        self._ways = chains.ways()

    def _check_rooms(self, rooms):
        """Refuses rooms that the house does not have."""
        if not all([0 <= room < self._house[0] for room in rooms]):
            raise NoRoom("the house has no such room")
