"""All lots of a house at once, by their numbers: lot k has the rooms whose bits, 1 << room, are set in k."""

from bothdoors.houses import met


def number_of(rooms, lot):
    """The number of a lot, in a house of so many rooms."""
    return sum([1 << room for room in range(rooms) if room in lot])


def lot_of(rooms, number):
    """The lot that has this number, in a house of so many rooms."""
    return [room for room in range(rooms) if number >> room & 1]


def lot_sums(house, counts, weights):
    """For each lot, by its number, the weights of its rooms and what leaves it, together."""
    rooms = house[0]
    passed = met(house, counts)
    between = _between(house, counts)
    sums = [0]
    for room in range(rooms):
        # What the room adds to each lot of lesser rooms: its doors to that lot no longer leave it.
        added = [weights[room] + passed[room]]
        for lesser in range(room):
            inner = 2 * between[room][lesser]
            added = added + [more - inner for more in added]
        sums = sums + [before + more for before, more in zip(sums, added)]
    return sums


def odd_ones(house, begin, counts):
    """For each room 1 where it can have but odd numbers at the end, else 0."""
    return [(had + passed) % 2 for had, passed in zip(begin, met(house, counts))]


def spares(house, begin, counts):
    """For each lot, by its number, what it had at first and what leaves it less its rooms with odd numbers."""
    # A room that can have but odd numbers keeps at least one of its folk to itself.
    return lot_sums(house, counts, [had - own for had, own in zip(begin, odd_ones(house, begin, counts))])


def _between(house, counts):
    """For each two rooms, what the doors between them were counted together."""
    rooms, doors = house
    between = [[0] * rooms for _ in range(rooms)]
    for (a, b), count in zip(doors, counts):
        between[a][b] += count
        between[b][a] += count
    return between
