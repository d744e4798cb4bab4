"""Plain reckoning about tapes: all stories by trying all ways or all numbers, papers by plain sums; chance tapes."""

import itertools
import math
from fractions import Fraction

from tests.plain import gone
from tests.small import chance_doors


def all_stories(house, begin, tape):
    """Each story of the tape: (ways, the numbers at first and behind each bead)."""
    beads, looks = tape
    for ways in itertools.product(*[(0, 1) if way == -1 else (way,) for _, way in beads]):
        numbers = gone(house, begin, [(door, way) for (door, _), way in zip(beads, ways)])
        if len(numbers) > len(beads):
            if all(least <= numbers[moment][room] <= most for moment, room, least, most in looks):
                yield list(ways), numbers


def outs(house, beads, ways, room):
    """How many of the beads went out of the room."""
    return sum(1 for (door, _), way in zip(beads, ways) if house[1][door][way] == room)


def outs_plainly(house, begin, tape, room, moment):
    """(most out, least out), as the document tells them."""
    if moment == 0:
        return 0, 0
    both = begin[room] + sum(1 for at in range(moment) if room in house[1][tape[0][at][0]])
    low, outs_at_least = 0, [0]
    for at, seen, least, most in tape[1]:
        if (at, seen) == (moment, room):
            low = max(low, least)
            outs_at_least.append(math.ceil(Fraction(both - most, 2)))
    return math.floor(Fraction(both - low, 2)), max(outs_at_least)


def goes_along(house, begin, tape, ways):
    """Whether these ways are a story of the tape, going by going."""
    beads, looks = tape
    if len(ways) != len(beads) or any(way not in (0, 1) for way in ways):
        return False
    if any(seen == 1 - way for (_, seen), way in zip(beads, ways)):
        return False
    numbers = gone(house, begin, [(door, way) for (door, _), way in zip(beads, ways)])
    if len(numbers) <= len(beads):
        return False
    return not any(numbers[at][room] < least or numbers[at][room] > most for at, room, least, most in looks)


def look_papers(house, begin, tape):
    """All papers of a look, by moments, then rooms."""
    places = sorted({(moment, room) for moment, room, _, _ in tape[1]})
    return [("look", *place) for place in places if adds_up(house, begin, tape, ("look", *place))]


def adds_up(house, begin, tape, paper):
    """Whether the paper holds, by plain sums."""
    kind, *named = paper
    if kind not in ("look", "many", "few"):
        return False
    if kind == "look":
        moment, room = named
        if moment not in range(len(tape[0]) + 1) or room not in range(house[0]):
            return False
        if moment == 0:
            return any(begin[room] < least or begin[room] > most
                       for at, seen, least, most in tape[1] if (at, seen) == (0, room))
        most, least = outs_plainly(house, begin, tape, room, moment)
        return least > most
    covered = covering(house, tape, named[0])
    return covered is not None and sums_say(house, begin, tape, kind, named[0], covered)


def covering(house, tape, stretches):
    """For each room the moments of its stretches; None where these are no stretches."""
    covered = {room: set() for room in range(house[0])}
    for ahead, stretch in zip([None] + stretches, stretches):
        room, first, last = stretch
        if room not in covered or first < 1 or last < first or last > len(tape[0]):
            return None
        if ahead is not None and ahead >= stretch or covered[room] & set(range(first - 1, last + 2)):
            return None
        covered[room] |= set(range(first, last + 1))
    return covered


def sums_say(house, begin, tape, kind, stretches, covered):
    bound = free = room_for = need_for = 0
    for at, (door, way) in enumerate(tape[0], 1):
        rooms = {house[1][door][one] for one in (0, 1) if way in (-1, one)}
        within = {room for room in rooms if at in covered[room]}
        bound += within == rooms
        free += bool(within)
    for room, first, last in stretches:
        most_last, least_last = outs_plainly(house, begin, tape, room, last)
        most_ahead, least_ahead = outs_plainly(house, begin, tape, room, first - 1)
        room_for += most_last - least_ahead
        need_for += least_last - most_ahead
    return bound > room_for if kind == "many" else free < need_for


class Plain:
    """All stories of a tape at once: for each moment the numbers of rooms that lie on one, none where there is none."""

    def __init__(self, house, begin, tape):
        beads, self.looks = tape
        self.doors = [house[1][door] for door, _ in beads]
        self.seen = [way for _, way in beads]
        self.at = [self.right({tuple(begin)}, 0)]
        for bead in range(len(beads)):
            moved = {self.moved(numbers, bead, way) for numbers in self.at[bead] for way in (0, 1)}
            self.at.append(self.right(moved - {None}, bead + 1))
        for bead in reversed(range(len(beads))):
            behind = self.at[bead + 1]
            self.at[bead] = {numbers for numbers in self.at[bead]
                             if any(self.moved(numbers, bead, way) in behind for way in (0, 1))}

    def right(self, states, moment):
        looks = [look[1:] for look in self.looks if look[0] == moment]
        return {numbers for numbers in states
                if all(least <= numbers[room] <= most for room, least, most in looks)}

    def moved(self, numbers, bead, way):
        """The numbers behind a bead that went this way; None where it cannot have."""
        out, into = self.doors[bead][way], self.doors[bead][1 - way]
        if self.seen[bead] == 1 - way or numbers[out] == 0:
            return None
        return tuple(number - (room == out) + (room == into) for room, number in enumerate(numbers))

    def possible(self):
        return bool(self.at[-1])

    def numbers(self, rooms, moment):
        """All numbers that the rooms together can have then, rising."""
        return sorted({sum(numbers[room] for room in rooms) for numbers in self.at[moment]})

    def span(self, rooms, moment):
        numbers = self.numbers(rooms, moment)
        return numbers[0], numbers[-1]

    def ends(self):
        return sorted(list(numbers) for numbers in self.at[-1])

    def ways(self, bead):
        return [way for way in (0, 1)
                if any(self.moved(numbers, bead, way) in self.at[bead + 1] for numbers in self.at[bead])]

    def sure(self):
        told = [self.ways(bead) for bead in range(len(self.seen))]
        return [ways[0] if len(ways) == 1 else -1 for ways in told]


def chance_tape(chance, rooms=3, beads=5, looks=3, folk=3):
    """(house, begin, tape) of the smaller kind, of which all ways can be tried."""
    house = (rooms, chance_doors(chance, rooms, chance.randint(1, rooms + 1)))
    begin = [chance.randint(0, folk) for _ in range(rooms)]
    row = [(chance.randrange(len(house[1])), chance.choice((-1, -1, 0, 1))) for _ in range(chance.randint(0, beads))]
    seen = []
    for _ in range(chance.randint(0, looks)):
        least = chance.choice((0, 0, 0, 1, 2))
        seen.append((chance.randint(0, len(row)), chance.randrange(rooms), least, least + chance.choice((0, 1, 2, 9))))
    return house, begin, (row, seen)


def gone_tape(chance, rooms=10, doors=24, folk=3, beads=200, looks=60, seen=0.2, slack=2, off=0):
    """(house, begin, tape) of goings that were gone; looks are right by them, but where they may be off by so many."""
    house = (rooms, chance_doors(chance, rooms, doors))
    begin = [chance.randint(0, folk) for _ in range(rooms)]
    begin[house[1][0][0]] += 1
    numbers, row = [list(begin)], []
    for _ in range(beads):
        now = list(numbers[-1])
        door, way = chance.choice([(door, way) for door, ends in enumerate(house[1]) for way in (0, 1)
                                   if now[ends[way]] > 0])
        now[house[1][door][way]] -= 1
        now[house[1][door][1 - way]] += 1
        row.append((door, way if chance.random() < seen else -1))
        numbers.append(now)
    rows = []
    for _ in range(looks):
        moment, room = chance.randint(0, beads), chance.randrange(rooms)
        number = numbers[moment][room] + chance.randint(-off, off)
        rows.append((moment, room, number - chance.randint(0, slack), number + chance.randint(0, slack)))
    return house, begin, (row, rows)


def spoiled_tape(chance, rooms, doors, folk, beads, looks):
    """The same with something changed behind the going: looks, seen ways, the order of beads, or a room's folk."""
    kind = chance.choice(("looks", "ways", "order", "folk"))
    seen = 0.5 if kind == "ways" else 0.1
    house, begin, (row, rows) = gone_tape(chance, rooms, doors, folk, beads, looks, seen, chance.choice((0, 1, 2)))
    for _ in range(chance.randint(1, 4)):
        at, other = chance.randrange(beads), chance.randrange(beads)
        if kind == "looks":
            at, by = chance.randrange(looks), chance.choice((-4, -2, 2, 4))
            moment, room, least, most = rows[at]
            rows[at] = (moment, room, max(0, least + by), max(0, most + by))
        elif kind == "ways":
            row[at] = (row[at][0], chance.choice((0, 1)))
        elif kind == "order":
            row[at], row[other] = row[other], row[at]
    if kind == "folk":
        room = chance.randrange(rooms)
        begin[room] += chance.choice((2, 4, -2 if begin[room] > 1 else 2))
    return house, begin, (row, rows)
