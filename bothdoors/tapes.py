"""Tapes: what beads and looks alone say of a room, tapes turned about, and tapes made of wardens' books."""

BEAD_FIELDS = 3


def most_out(house, begin, tape, room, moment):
    """How many of the first beads, up to the moment, went out of the room at most."""
    if moment == 0:
        return 0
    kept = max([0] + [least for least, _ in _looks_at(tape, room, moment)])
    return (_had_and_met(house, begin, tape, room, moment) - kept) // 2


def least_out(house, begin, tape, room, moment):
    """How many of the first beads, up to the moment, went out of the room at least."""
    if moment == 0:
        return 0
    both = _had_and_met(house, begin, tape, room, moment)
    # The 1 rounds up what is halved.
    return max([0] + [(both - most + 1) // 2 for _, most in _looks_at(tape, room, moment)])


def turned(tape):
    """The tape read backwards."""
    beads, looks = tape
    back = [(door, way if way == -1 else 1 - way) for door, way in beads[::-1]]
    return back, [(len(beads) - moment, room, least, most) for moment, room, least, most in looks]


def tape_of(books):
    """The tape that all wardens' books make together."""
    # Sorting keeps rows of one time in the order of the books.
    rows = sorted([row for book in books for row in book], key=lambda row: row[0])
    beads = []
    looks = []
    for row in rows:
        if len(row) == BEAD_FIELDS:
            _, door, way = row
            beads.append((door, way))
        else:
            _, room, least, most = row
            looks.append((len(beads), room, least, most))
    return beads, looks


def _had_and_met(house, begin, tape, room, moment):
    """What the room had at first and how many beads, up to the moment, are at its doors, together."""
    return begin[room] + len([door for door, _ in tape[0][:moment] if room in house[1][door]])


def _looks_at(tape, room, moment):
    """The (least, most) of each look at the room at just this moment."""
    return [(least, most) for at, seen, least, most in tape[1] if at == moment and seen == room]
