"""What is possible by counts alone, and papers of what is not."""

from bothdoors.errors import NoEnd
from bothdoors.houses import leaving, met, parts


def paper_of(house, begin, counts, end):
    """The first paper that the end is not possible; None where it is possible."""
    if sum(begin) != sum(end):
        return ("folk",)
    below = [room for room in range(house[0]) if end[room] < 0]
    if below:
        return ("below", below[0])
    odd = [room for room in range(house[0]) if _is_odd(house, begin, counts, end, room)]
    if odd:
        return ("odd", odd[0])
    empty = _empty_parts(house, begin, counts)
    if empty:
        return ("nobody", empty[0])
    # Lots that gained are enough: with as many folk as at first, what is beside a lot that lost gained the same.
    spare, lot = _tightest(house, counts, [had - has for had, has in zip(begin, end)], [])
    return ("lot", lot) if spare < 0 else None


def holds(house, begin, counts, end, paper):
    """Whether what the paper says against the end is so."""
    kind = paper[0]
    if kind == "folk":
        return sum(begin) != sum(end)
    named = [paper[1]] if kind in ("below", "odd") else paper[1]
    if not all([0 <= room < house[0] for room in named]):
        return False
    if kind == "below":
        return end[named[0]] < 0
    if kind == "odd":
        return _is_odd(house, begin, counts, end, named[0])
    if kind == "nobody":
        return named in _empty_parts(house, begin, counts)
    gain = sum([end[room] - begin[room] for room in named])
    return abs(gain) > leaving(house, counts, named)


def shut(house, begin, counts):
    """The first paper that no end is possible; None where one is."""
    empty = _empty_parts(house, begin, counts)
    if empty:
        return ("nobody", empty[0])
    spare, lot = _most(house, begin, counts, [])
    return ("odds", lot) if spare < 0 else None


def greatest(house, begin, counts, lot):
    """The greatest number that the lot can have at the end, and a lot about it that shows it."""
    if shut(house, begin, counts) is not None:
        raise NoEnd("no end is possible by these counts")
    return _most(house, begin, counts, lot)


def least(house, begin, counts, lot):
    """The least number that the lot can have at the end, and a lot about the rooms beside it that shows it."""
    beside = [room for room in range(house[0]) if room not in lot]
    number, shown = greatest(house, begin, counts, beside)
    return sum(begin) - number, shown


def _is_odd(house, begin, counts, end, room):
    """Whether what the room had, has and met together is odd."""
    return (begin[room] + end[room] + met(house, counts)[room]) % 2 == 1


def _empty_parts(house, begin, counts):
    """The parts of more than one room in which nobody was at first."""
    return [part for part in parts(house, counts) if len(part) > 1 and not any([begin[room] for room in part])]


def _most(house, begin, counts, lot):
    """The most that the lot can have, and a lot that shows it; of no rooms, below 0 where folk are too few for odds."""
    passed = met(house, counts)
    # A room that had and met an odd number ends with an odd one: it keeps at least one of its folk to itself.
    kept = [0 if room in lot else (begin[room] + passed[room]) % 2 for room in range(house[0])]
    return _tightest(house, counts, [had - own for had, own in zip(begin, kept)], lot)


def _tightest(house, counts, weights, lot):
    """The least, over lots about this one, of their rooms' weights and what leaves them; and a lot that has it."""
    lots = _lots_about(house[0], lot)
    sums = [sum([weights[room] for room in about]) + leaving(house, counts, about) for about in lots]
    least_sum = min(sums)
    return least_sum, lots[sums.index(least_sum)]


def _lots_about(rooms, lot):
    """All lots, in a house of so many rooms, that have all rooms of this one."""
    lots = [[]]
    for room in range(rooms):
        wider = [narrow + [room] for narrow in lots]
        lots = wider if room in lot else lots + wider
    return lots
