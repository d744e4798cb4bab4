"""Rows of goings: found, judged, and the fewest folk that they need."""

from bothdoors.counted import paper_of
from bothdoors.errors import NoEnd
from bothdoors.houses import go, parts, through
from bothdoors.lots import lot_sums


def goings(house, begin, counts, end):
    """A row of goings that can be gone, passes each door as often as counted, and leads to the end."""
    if paper_of(house, begin, counts, end) is not None:
        raise NoEnd("no row of goings leads to this end")
    left = _split(house, begin, counts, end)
    numbers = list(begin)
    row = []
    for _ in range(sum(counts)):
        door, way = _next_going(house, numbers, left)
        left[door][way] -= 1
        go(house, numbers, door, way)
        row.append((door, way))
    return row


def goings_fault(house, begin, counts, end, row):
    """What is wrong with a row of goings that should lead to the end; None where nothing is."""
    doors = house[1]
    for at, (door, way) in enumerate(row):
        if not 0 <= door < len(doors) or way not in (0, 1):
            return ("way", at)
    numbers = list(begin)
    passed = [0] * len(doors)
    for at, (door, way) in enumerate(row):
        if numbers[through(house, door, way)[0]] < 1:
            return ("empty", at)
        go(house, numbers, door, way)
        passed[door] += 1
    for door, count in enumerate(counts):
        if passed[door] != count:
            return ("count", door)
    for room, number in enumerate(end):
        if numbers[room] != number:
            return ("end", room)
    return None


def fewest(house, counts):
    """A beginning with the fewest folk by which some end is possible."""
    rooms, doors = house
    # Goings that one can go there and back again need nobody more: of each door at most one odd going is left.
    odd = [door for door, count in zip(doors, counts) if count % 2 == 1]
    begin = [0] * rooms
    for room in range(rooms):
        # One who begins where an odd number is left comes to a stand in another such room, so each two need one.
        if len([door for door in odd if room in door]) % 2 == 1:
            begin[room] = 1
            odd = _walked(odd, room)
    for part in parts(house, counts):
        if len(part) > 1 and not any([begin[room] for room in part]):
            begin[part[0]] = 1
    return begin


def _walked(doors, start):
    """The doors that are left where one goes from a room through these, each once, until none is left there."""
    left = list(doors)
    room = start
    while True:
        here = [door for door in left if room in door]
        if not here:
            return left
        left.remove(here[0])
        room = sum(here[0]) - room


def _split(house, begin, counts, end):
    """For each door, how often it is passed each way, so that all together make the end of the beginning."""
    left = list(counts)
    owed = [had - has for had, has in zip(begin, end)]
    shares = []
    for door, (a, b) in enumerate(house[1]):
        left[door] = 0
        more = min(counts[door], _most_across(lot_sums(house, left, owed), a, b))
        owed[a] -= more
        owed[b] += more
        shares.append([(counts[door] + more) // 2, (counts[door] - more) // 2])
    return shares


def _most_across(sums, a, b):
    """How many more may go from room a to room b than back, where lots with these sums owe and can let out so many."""
    # Each lot about a alone must still be able to let out all that it then owes.
    return min([spare for lot, spare in enumerate(sums) if lot >> a & 1 and not lot >> b & 1])


def _next_going(house, numbers, left):
    """The first going, of those that are left, behind which all others can be gone in some order."""
    # There always is one: where a going out of a room goes ill, another one out of that room goes well.
    for door in range(len(left)):
        for way in (0, 1):
            if left[door][way] > 0 and _goes_well(house, numbers, left, door, way):
                return door, way
    return None


def _goes_well(house, numbers, left, door, way):
    """Whether the going can be gone now, and behind it somebody is in each part that is still to be passed."""
    if numbers[through(house, door, way)[0]] == 0:
        return False
    behind = list(numbers)
    go(house, behind, door, way)
    counts = [there + back for there, back in left]
    counts[door] -= 1
    return all([len(part) == 1 or any([behind[room] for room in part]) for part in parts(house, counts)])
