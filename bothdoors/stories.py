"""Stories of tapes, papers that there is none, and the judges of both."""

from bothdoors.houses import go, through
from bothdoors.laying import laid
from bothdoors.tapes import least_out, most_out, wrong_at_first


def story(house, begin, tape):
    """A story of the tape, or a paper that there is none."""
    chains, paper = laid(house, begin, tape, [])
    return ("paper", paper) if chains is None else ("story", chains.ways())


def story_right(house, begin, tape, ways):
    """Whether the ways are a story of the tape."""
    beads, looks = tape
    if len(ways) != len(beads):
        return False
    numbers = list(begin)
    behind = [begin]
    for (door, seen), way in zip(beads, ways):
        if way not in (0, 1) or seen not in (-1, way) or numbers[through(house, door, way)[0]] < 1:
            return False
        go(house, numbers, door, way)
        behind.append(list(numbers))
    return all([least <= behind[moment][room] <= most for moment, room, least, most in looks])


def paper_right(house, begin, tape, paper):
    """Whether what the paper says against the tape is so."""
    if paper[0] == "look":
        return _look_right(house, begin, tape, paper[1], paper[2])
    if paper[0] not in ("many", "few") or not _are_stretches(house, tape, paper[1]):
        return False
    stretches = paper[1]
    within = _within(house, tape, stretches)
    if paper[0] == "many":
        bound = len([rooms for rooms in within if all(rooms)])
        return bound > _between(house, begin, tape, stretches, most_out, least_out)
    free = len([rooms for rooms in within if any(rooms)])
    return free < _between(house, begin, tape, stretches, least_out, most_out)


def _look_right(house, begin, tape, moment, room):
    """Whether looks at the room at the moment show that there is no story."""
    if not 0 <= moment <= len(tape[0]) or not 0 <= room < house[0]:
        return False
    if moment == 0:
        return room in wrong_at_first(begin, tape)
    return least_out(house, begin, tape, room, moment) > most_out(house, begin, tape, room, moment)


def _are_stretches(house, tape, rows):
    """Whether these are stretches of rooms of the house and moments of the tape, as papers name them."""
    for room, first, last in rows:
        if not 0 <= room < house[0] or not 1 <= first <= last <= len(tape[0]):
            return False
    for (room, _, last), (next_room, next_first, _) in zip(rows, rows[1:]):
        if next_room < room or (next_room == room and next_first < last + 2):
            return False
    return True


def _within(house, tape, stretches):
    """For each bead, of each room that it may have left, whether the room has a stretch with the bead in it."""
    rooms_left = [house[1][door] if way == -1 else house[1][door][way:way + 1] for door, way in tape[0]]
    return [[any([room == one and first <= at + 1 <= last for one, first, last in stretches]) for room in rooms]
            for at, rooms in enumerate(rooms_left)]


def _between(house, begin, tape, stretches, out_by_last, out_ahead):
    """The sum of what the stretches' rooms let out by the last moments, less what they did ahead of the first ones."""
    by_last = sum([out_by_last(house, begin, tape, room, last) for room, _, last in stretches])
    return by_last - sum([out_ahead(house, begin, tape, room, first - 1) for room, first, _ in stretches])
