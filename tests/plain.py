"""Plain reckoning to hold the program against: goings gone one by one, sums written out, splits pushed about."""

import itertools


def all_lots(rooms):
    """Every lot of so many rooms."""
    return [list(lot) for many in range(rooms + 1) for lot in itertools.combinations(range(rooms), many)]


def met_plainly(house, counts):
    rooms, doors = house
    return [sum(count for door, count in zip(doors, counts) if room in door) for room in range(rooms)]


def leaving_plainly(house, counts, lot):
    total = 0
    for (a, b), count in zip(house[1], counts):
        if len({a, b} & set(lot)) == 1:
            total += count
    return total


def parts_plainly(house, counts):
    """Parts by marking: from each room that has no mark yet, all rooms that one comes to."""
    rooms, doors = house
    marked = {}
    for start in range(rooms):
        todo = [start]
        while todo:
            room = todo.pop()
            if room in marked:
                continue
            marked[room] = start
            for (a, b), count in zip(doors, counts):
                if count and room in (a, b):
                    todo.append(a + b - room)
    return [[room for room in range(rooms) if marked[room] == start] for start in sorted(set(marked.values()))]


def possible_ends(house, begin, counts):
    """Every end to which some row of goings leads, by going all of them."""
    seen = {(tuple(begin), tuple(counts))}
    todo = list(seen)
    found = []
    while todo:
        numbers, left = todo.pop()
        if not any(left):
            found.append(list(numbers))
        for step in _goings(house, numbers, left):
            if step not in seen:
                seen.add(step)
                todo.append(step)
    return sorted(found)


def _goings(house, numbers, left):
    for door, (a, b) in enumerate(house[1]):
        if not left[door]:
            continue
        fewer = left[:door] + (left[door] - 1,) + left[door + 1:]
        for out, into in ((a, b), (b, a)):
            if numbers[out]:
                moved = list(numbers)
                moved[out] -= 1
                moved[into] += 1
                yield tuple(moved), fewer


def empty_parts(house, begin, counts):
    return [part for part in parts_plainly(house, counts)
            if len(part) > 1 and all(begin[room] == 0 for room in part)]


def plain_papers(house, begin, counts, end):
    """All papers that hold, but of lots, in the order in which they are to be told."""
    rooms = range(house[0])
    passed = met_plainly(house, counts)
    papers = [("folk",)] if sum(begin) != sum(end) else []
    papers += [("below", room) for room in rooms if end[room] < 0]
    papers += [("odd", room) for room in rooms if (begin[room] + end[room] + passed[room]) % 2]
    return papers + [("nobody", part) for part in empty_parts(house, begin, counts)]


def lot_holds(house, begin, counts, end, lot):
    first, last = sum(begin[room] for room in lot), sum(end[room] for room in lot)
    return max(first, last) - min(first, last) > leaving_plainly(house, counts, lot)


def lot_papers(house, begin, counts, end):
    return [("lot", lot) for lot in all_lots(house[0]) if lot_holds(house, begin, counts, end, lot)]


def shows(house, begin, counts, asked, lot):
    """What a lot about the asked rooms lets these have at the most."""
    passed = met_plainly(house, counts)
    odd = [room for room in lot if room not in asked and (begin[room] + passed[room]) % 2]
    return sum(begin[room] for room in lot) + leaving_plainly(house, counts, lot) - len(odd)


def split_exists(house, begin, counts, end):
    """Whether each door's goings can be split between its rooms so that each room is left as often as the end says.

    All goings of a door are given to its first room; then they are pushed along doors from rooms that are left too
    often to rooms that are left too seldom, by shortest ways, until none is too much or no push is left.
    """
    left_at = [[count, 0] for count in counts]
    spare = [0] * house[0]
    for room, passed in enumerate(met_plainly(house, counts)):
        outs, rest = divmod(begin[room] + passed - end[room], 2)
        if rest:
            return False
        spare[room] -= outs
    for (a, _), count in zip(house[1], counts):
        spare[a] += count
    if sum(spare):
        return False
    while any(much > 0 for much in spare):
        way = _push_way(house, left_at, spare)
        if way is None:
            return False
        _push(house, left_at, spare, way)
    return True


def _push_way(house, left_at, spare):
    """A shortest way, as a row of (door, side), from a room with too much to one with too little."""
    ways = {room: [] for room, much in enumerate(spare) if much > 0}
    todo = list(ways)
    while todo:
        room = todo.pop(0)
        if spare[room] < 0:
            return ways[room]
        for door, ends in enumerate(house[1]):
            for side in (0, 1):
                other = ends[1 - side]
                if ends[side] == room and left_at[door][side] and other not in ways:
                    ways[other] = ways[room] + [(door, side)]
                    todo.append(other)
    return None


def _push(house, left_at, spare, way):
    first = house[1][way[0][0]][way[0][1]]
    last = house[1][way[-1][0]][1 - way[-1][1]]
    much = min([spare[first], -spare[last]] + [left_at[door][side] for door, side in way])
    for door, side in way:
        left_at[door][side] -= much
        left_at[door][1 - side] += much
    spare[first] -= much
    spare[last] += much


def gone(house, begin, row):
    """The numbers at first and behind each going, up to the one at which a room that is empty would be left."""
    numbers = [list(begin)]
    for door, way in row:
        behind = list(numbers[-1])
        out, into = house[1][door][way], house[1][door][1 - way]
        if behind[out] == 0:
            break
        behind[out] -= 1
        behind[into] += 1
        numbers.append(behind)
    return numbers


def passed_plainly(house, row):
    return [sum(1 for door, _ in row if door == asked) for asked in range(len(house[1]))]


def split_ends(house, begin, counts):
    """Every end, rising, that some split of the counts makes, none of its numbers below 0 and no part with nobody."""
    if empty_parts(house, begin, counts):
        return []
    sums = {tuple(begin)}
    for (a, b), count in zip(house[1], counts):
        sums = {_shifted(numbers, a, b, more) for numbers in sums for more in range(-count, count + 1, 2)}
    return sorted(list(numbers) for numbers in sums if min(numbers) >= 0)


def _shifted(numbers, a, b, more):
    moved = list(numbers)
    moved[a] -= more
    moved[b] += more
    return tuple(moved)
