"""Houses: rooms joined by doors, how they are written, and plain sums of how often doors were passed."""

from bothdoors.errors import NoText
from bothdoors.figures import whole

MOST_ROOMS = 10
MOST_DOORS = 24


def read(text):
    """The house that is written so; NoText where none is."""
    first, *others = text.split("\n")
    rooms = _numbers(first, "rooms", 1)[0]
    if not 1 <= rooms <= MOST_ROOMS:
        raise NoText(f"a house has 1 to {MOST_ROOMS} rooms")
    if len(others) > MOST_DOORS:
        raise NoText(f"a house has at most {MOST_DOORS} doors")
    return rooms, [_door(row, rooms) for row in others]


def written(house):
    """The text of a house."""
    rooms, doors = house
    return "\n".join([f"rooms {rooms}"] + [f"door {a} {b}" for a, b in doors])


def through(house, door, way):
    """The room that a going leaves, and the one that it comes to."""
    a, b = house[1][door]
    return (a, b) if way == 0 else (b, a)


def go(house, numbers, door, way):
    """Moves one of the folk in these numbers through the door."""
    out, into = through(house, door, way)
    numbers[out] -= 1
    numbers[into] += 1


def met(house, counts):
    """For each room, what its doors were counted together."""
    rooms, doors = house
    sums = [0] * rooms
    for (a, b), count in zip(doors, counts):
        sums[a] += count
        sums[b] += count
    return sums


def leaving(house, counts, lot):
    """What the doors between a room of the lot and one beside it were counted together."""
    doors = house[1]
    return sum([count for (a, b), count in zip(doors, counts) if (a in lot) != (b in lot)])


def parts(house, counts):
    """The lots that hang together by doors that were passed, by their least rooms."""
    rooms, doors = house
    leaders = list(range(rooms))
    for (a, b), count in zip(doors, counts):
        if count > 0:
            low, high = sorted([leaders[a], leaders[b]])
            leaders = [low if leader == high else leader for leader in leaders]
    return [[room for room in range(rooms) if leaders[room] == first] for first in sorted(set(leaders))]


def _door(row, rooms):
    """The door that a row tells of, in a house of so many rooms."""
    a, b = _numbers(row, "door", 2)
    if a >= rooms or b >= rooms:
        raise NoText("a door at a room that the house does not have")
    if a == b:
        raise NoText("a door from a room to itself")
    return a, b


def _numbers(row, word, many):
    """The numbers, so many, that stand behind the word in a row."""
    words = row.split(" ")
    if words[0] != word or len(words) != many + 1:
        raise NoText(f"this row is not '{word}' and its numbers, {many} of them")
    numbers = [whole(figures) for figures in words[1:]]
    if None in numbers:
        raise NoText("a number has one to nine figures, none of them a 0 ahead, and no other signs")
    return numbers
