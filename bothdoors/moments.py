"""What all stories of a tape tell of rooms, lots and ways."""

from bothdoors.errors import NoStory
from bothdoors.laying import laid, span_at, span_of, sure_ways


def room_at(house, begin, tape, moment, room):
    """The least and the greatest number that the room can have behind so many beads."""
    return span_at(_told(house, begin, tape), room, moment)


def lot_now(house, begin, tape, lot):
    """The least and the greatest number that the lot can have behind all beads."""
    return span_of(_told(house, begin, tape), lot)


def sure(house, begin, tape):
    """For each bead the way that it has in all stories, -1 where it can have either."""
    return sure_ways(_told(house, begin, tape))


def _told(house, begin, tape):
    """The chains of the tape, by a story."""
    chains, _ = laid(house, begin, tape, [])
    if chains is None:
        raise NoStory("the tape has no story")
    return chains
