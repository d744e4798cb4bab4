"""Plain reckoning about tapes: all stories by trying all ways, and tapes by fixed chance."""

import itertools

from tests.plain import gone
from tests.small import chance_doors


def all_stories(house, begin, tape):
    """Each story of the tape: (ways, the numbers at first and behind each bead)."""
    beads, looks = tape
    for ways in itertools.product(*[(0, 1) if way == -1 else (way,) for _, way in beads]):
        numbers = gone(house, begin, [(door, way) for (door, _), way in zip(beads, ways)])
        if len(numbers) > len(beads):
            if all(least <= numbers[moment][room] <= most for moment, room, least, most in looks):
                yield list(ways), numbers


def outs(house, beads, ways, room):
    """How many of the beads went out of the room."""
    return sum(1 for (door, _), way in zip(beads, ways) if house[1][door][way] == room)


def chance_tape(chance, rooms=3, beads=5, looks=3, folk=3):
    """(house, begin, tape) of the smaller kind, of which all ways can be tried."""
    house = (rooms, chance_doors(chance, rooms, chance.randint(1, rooms + 1)))
    begin = [chance.randint(0, folk) for _ in range(rooms)]
    row = [(chance.randrange(len(house[1])), chance.choice((-1, -1, 0, 1))) for _ in range(chance.randint(0, beads))]
    seen = []
    for _ in range(chance.randint(0, looks)):
        least = chance.choice((0, 0, 0, 1, 2))
        seen.append((chance.randint(0, len(row)), chance.randrange(rooms), least, least + chance.choice((0, 1, 2, 9))))
    return house, begin, (row, seen)
