"""Sessions: a hall's deeds and asks as rows of text."""

from bothdoors.errors import Barred, Known, NoBead, NoDoor, NoLook, NoMark, NoMoment, NoRoom, NoWay
from bothdoors.figures import signed
from bothdoors.hall import Hall


def session(house, begin, rows):
    """What a new hall tells of each row, row by row."""
    hall = Hall(house, begin)
    return "\n".join([_told(hall, house[0], row) for row in rows.split("\n")])


def _bead(hall, numbers):
    """`bead D`, `bead D W`: a bead falls."""
    hall.bead(numbers[0], way=numbers[1] if len(numbers) > 1 else -1)
    return "ok"


def _look(hall, numbers):
    """`look R L M`: a look at a room now."""
    room, least, most = numbers
    hall.look(room, least, most)
    return "ok"


def _way(hall, numbers):
    """`way K W`: a bead's way becomes known."""
    bead, way = numbers
    hall.seen(bead, way)
    return "ok"


def _strike(hall, numbers):
    """`strike L`: a look is struck."""
    hall.strike(numbers[0])
    return "ok"


def _mark(hall, _):
    """`mark`: the mark's number."""
    return str(hall.mark())


def _undo(hall, numbers):
    """`undo M`: undone to a mark."""
    hall.undo(numbers[0])
    return "ok"


def _room(hall, numbers):
    """`room R T`: the least and the greatest of a room at a moment."""
    room, moment = numbers
    least, greatest = hall.room(room, moment)
    return f"{least} {greatest}"


def _lot(hall, numbers):
    """`lot R,R`: the least and the greatest of a lot now."""
    least, greatest = hall.lot(numbers)
    return f"{least} {greatest}"


def _end(hall, numbers):
    """`end N,N`: whether these numbers are possible now."""
    kind, told = hall.end(numbers)
    if kind == "story":
        return "yes"
    return "look" if told[0] == "look" else "no"


def _sure(hall, _):
    """`sure`: a sign for each bead."""
    return "".join(["-" if way == -1 else str(way) for way in hall.sure()])


def _news(hall, _):
    """`news`: the rooms that can have other numbers now."""
    return "".join([f"{room} {least} {greatest};" for room, least, greatest in hall.news()])


# How many numbers may stand behind a word; behind the others stands one list of numbers.
MANY = {"bead": (1, 2), "look": (3,), "way": (2,), "strike": (1,), "mark": (0,), "undo": (1,), "room": (2,),
        "sure": (0,), "news": (0,)}
DEEDS = {"bead": _bead, "look": _look, "way": _way, "strike": _strike, "mark": _mark, "undo": _undo, "room": _room,
         "lot": _lot, "end": _end, "sure": _sure, "news": _news}


def _told(hall, rooms, row):
    """What the hall, of so many rooms, tells of a row."""
    word, *words = row.split(" ")
    numbers = _numbers(word, words, rooms)
    return "?" if numbers is None else _answer(hall, word, numbers)


def _numbers(word, words, rooms):
    """The numbers of a row with this first word and these others; None where no row is so written."""
    if word in ("lot", "end") and len(words) == 1:
        words = words[0].split(",")
        many = (len(words),) if word == "lot" else (rooms,)
    else:
        many = MANY.get(word, ())
    numbers = [signed(one) for one in words]
    if len(words) not in many or None in numbers:
        return None
    if word == "lot" and not all([one < other for one, other in zip(numbers, numbers[1:])]):
        return None
    return numbers


def _answer(hall, word, numbers):
    """What the hall tells of a deed or an ask, or the name of the refusal."""
    deed = DEEDS[word]
    try:
        return deed(hall, numbers)
    except NoDoor:
        return "NoDoor"
    except NoRoom:
        return "NoRoom"
    except NoWay:
        return "NoWay"
    except NoBead:
        return "NoBead"
    except NoLook:
        return "NoLook"
    except NoMoment:
        return "NoMoment"
    except NoMark:
        return "NoMark"
    except Known:
        return "Known"
    except Barred as barred:
        return "Barred look" if barred.paper[0] == "look" else "Barred"
