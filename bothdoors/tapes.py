"""Tapes: what beads and looks alone say of a room, tapes turned about, and tapes made of wardens' books."""

BEAD_FIELDS = 3


def most_out(house, begin, tape, room, moment):
    """How many of the first beads, up to the moment, went out of the room at most."""
    if moment == 0:
        return 0
    leasts = [least for least, _ in _looks_at(tape, room, moment)]
    return _most_by(_had_and_met(house, begin, tape, room, moment), max([0] + leasts))


def least_out(house, begin, tape, room, moment):
    """How many of the first beads, up to the moment, went out of the room at least."""
    if moment == 0:
        return 0
    both = _had_and_met(house, begin, tape, room, moment)
    return max([0] + [_least_by(both, most) for _, most in _looks_at(tape, room, moment)])


def outs_by_looks(house, begin, tape):
    """For each (moment, room) with looks, but at moment 0, its (least out, most out)."""
    beads, looks = tape
    both = _all_had_and_met(house, begin, beads)
    found = {}
    for moment, room, least, most in looks:
        if moment > 0:
            here = both[moment][room]
            low, high = found.get((moment, room), (0, _most_by(here, 0)))
            found[(moment, room)] = (max(low, _least_by(here, most)), min(high, _most_by(here, least)))
    return found


def wrong_at_first(begin, tape):
    """The rooms of which a look at moment 0 is wrong."""
    return [room for moment, room, least, most in tape[1] if moment == 0 and not least <= begin[room] <= most]


def turned(tape):
    """The tape read backwards."""
    beads, looks = tape
    back = [(door, way if way == -1 else 1 - way) for door, way in beads[::-1]]
    return back, [(len(beads) - moment, room, least, most) for moment, room, least, most in looks]


def tape_of(books):
    """The tape that all wardens' books make together."""
    # Sorting keeps rows of one time in the order of the books.
    rows = sorted([row for book in books for row in book], key=lambda row: row[0])
    beads = []
    looks = []
    for row in rows:
        if len(row) == BEAD_FIELDS:
            _, door, way = row
            beads.append((door, way))
        else:
            _, room, least, most = row
            looks.append((len(beads), room, least, most))
    return beads, looks


def _most_by(both, least):
    """How many went out at most of a room that had and met so many, where so many are left at least."""
    return (both - least) // 2


def _least_by(both, most):
    """How many went out at least of a room that had and met so many, where so many are left at most."""
    # The 1 rounds up what is halved.
    return (both - most + 1) // 2


def _had_and_met(house, begin, tape, room, moment):
    """What the room had at first and how many beads, up to the moment, are at its doors, together."""
    return begin[room] + len([door for door, _ in tape[0][:moment] if room in house[1][door]])


def _all_had_and_met(house, begin, beads):
    """For each moment, what each room had at first and how many beads, up to then, are at its doors, together."""
    both = [begin]
    for door, _ in beads:
        a, b = house[1][door]
        behind = list(both[-1])
        behind[a] += 1
        behind[b] += 1
        both.append(behind)
    return both


def _looks_at(tape, room, moment):
    """The (least, most) of each look at the room at just this moment."""
    return [(least, most) for at, seen, least, most in tape[1] if at == moment and seen == room]
