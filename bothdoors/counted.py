"""What is possible by counts alone, and papers of what is not."""

from bothdoors.errors import NoEnd
from bothdoors.houses import leaving, parts
from bothdoors.lots import lot_of, lot_sums, number_of, odd_ones, spares


def paper_of(house, begin, counts, end):
    """The first paper that the end is not possible; None where it is possible."""
    if sum(begin) != sum(end):
        return ("folk",)
    below = [room for room in range(house[0]) if end[room] < 0]
    if below:
        return ("below", below[0])
    odd = _odd_rooms(house, begin, counts, end)
    if odd:
        return ("odd", odd[0])
    empty = _empty_parts(house, begin, counts)
    if empty:
        return ("nobody", empty[0])
    # Lots that gained are enough: with as many folk as at first, what is beside a lot that lost gained the same.
    sums = lot_sums(house, counts, [had - has for had, has in zip(begin, end)])
    return ("lot", _first_least(house, sums)) if min(sums) < 0 else None


def holds(house, begin, counts, end, paper):
    """Whether what the paper says against the end is so."""
    kind = paper[0]
    if kind == "folk":
        return sum(begin) != sum(end)
    if kind not in ("below", "odd", "nobody", "lot"):
        return False
    named = [paper[1]] if kind in ("below", "odd") else paper[1]
    if not all([0 <= room < house[0] for room in named]):
        return False
    if kind == "below":
        return end[named[0]] < 0
    if kind == "odd":
        return named[0] in _odd_rooms(house, begin, counts, end)
    if kind == "nobody":
        return named in _empty_parts(house, begin, counts)
    gain = sum([end[room] - begin[room] for room in named])
    return abs(gain) > leaving(house, counts, named)


def shut(house, begin, counts):
    """The first paper that no end is possible; None where one is."""
    return _shut_by(house, begin, counts, spares(house, begin, counts))


def greatest(house, begin, counts, lot):
    """The greatest number that the lot can have at the end, and a lot about it that shows it."""
    sums = spares(house, begin, counts)
    if _shut_by(house, begin, counts, sums) is not None:
        raise NoEnd("no end is possible by these counts")
    asked = number_of(house[0], lot)
    about = [number for number in range(len(sums)) if number & asked == asked]
    shown = min(about, key=lambda lot_number: sums[lot_number])
    # The asked rooms keep nothing from themselves: their own odd ones are among what they have.
    own = sum([odd for room, odd in enumerate(odd_ones(house, begin, counts)) if room in lot])
    return sums[shown] + own, lot_of(house[0], shown)


def least(house, begin, counts, lot):
    """The least number that the lot can have at the end, and a lot about the rooms beside it that shows it."""
    beside = [room for room in range(house[0]) if room not in lot]
    number, shown = greatest(house, begin, counts, beside)
    return sum(begin) - number, shown


def _odd_rooms(house, begin, counts, end):
    """The rooms of which what they had, have and met together is odd."""
    return [room for room, odd in enumerate(odd_ones(house, begin, counts)) if (end[room] + odd) % 2 == 1]


def _empty_parts(house, begin, counts):
    """The parts of more than one room in which nobody was at first."""
    return [part for part in parts(house, counts) if len(part) > 1 and not any([begin[room] for room in part])]


def _shut_by(house, begin, counts, sums):
    """The first paper that no end is possible, where these are what each lot can spare; None where one is."""
    empty = _empty_parts(house, begin, counts)
    if empty:
        return ("nobody", empty[0])
    return ("odds", _first_least(house, sums)) if min(sums) < 0 else None


def _first_least(house, sums):
    """The lot that has the least of the sums."""
    return lot_of(house[0], sums.index(min(sums)))
