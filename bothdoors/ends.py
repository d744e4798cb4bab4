"""All possible ends, and how one comes from one of them to another."""

from bothdoors.counted import paper_of, shut
from bothdoors.errors import NoEnd
from bothdoors.lots import odd_ones, spares


def ends(house, begin, counts):
    """All possible ends, rising."""
    if shut(house, begin, counts) is not None:
        return []
    # Rooms are filled from the last to the first, each with what goes beyond its odd one.
    filled = [([], _tightened(house[0], spares(house, begin, counts)))]
    for _ in range(house[0]):
        filled = [wider for numbers, most in filled for wider in _wider(numbers, most)]
    odd = odd_ones(house, begin, counts)
    return sorted([[one + beyond for one, beyond in zip(odd, numbers)] for numbers, _ in filled])


def led(house, begin, counts, end, other):
    """A shortest list of possible ends from one to the other, two folk being moved at a time."""
    for asked in (end, other):
        if paper_of(house, begin, counts, asked) is not None:
            raise NoEnd("one can be led between possible ends only")
    row = [list(end)]
    while row[-1] != other:
        row.append(_nearer(house, begin, counts, row[-1], other))
    return row


def _tightened(rooms, sums):
    """For each lot, the least that a lot about it can spare: the most that it can have, all this at once."""
    least = sums
    for room in range(rooms):
        least = [min(spare, least[lot | (1 << room)]) for lot, spare in enumerate(least)]
    return least


def _wider(numbers, most):
    """The numbers with each one more ahead that the last free room can have, and what free lots can have beside it.

    Of the lots, the first half is without that room, the other half is the same lots with it.
    """
    half = len(most) // 2
    without, among = most[:half], most[half:]
    return [([number] + numbers, [min(alone, both - number) for alone, both in zip(without, among)])
            for number in range(among[-1] - without[-1], among[0] + 1, 2)]


def _nearer(house, begin, counts, end, other):
    """A possible end with two folk of one room moved to another one, as the other end needs them."""
    rooms = range(house[0])
    for out in [room for room in rooms if end[room] > other[room]]:
        for into in [room for room in rooms if end[room] < other[room]]:
            moved = list(end)
            moved[out] -= 2
            moved[into] += 2
            if paper_of(house, begin, counts, moved) is None:
                return moved
    return None
