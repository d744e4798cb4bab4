"""A hall by plain reckoning: each time anew, all numbers that rooms can have are gone through."""

from tests.plain_tapes import Plain


class Refused(Exception):
    """A refusal by its class's name; of Barred with the tape that has no story."""

    def __init__(self, name, tape=None):
        super().__init__(name)
        self.name = name
        self.tape = tape


def check(right, name):
    if not right:
        raise Refused(name)


class PlainHall:

    def __init__(self, house, begin):
        self.place = house
        self.first = begin
        self.beads = []
        self.looks = []
        self.marks = []
        self.told = [(had, had) for had in begin]

    def plain(self):
        return Plain(self.place, self.first, (self.beads, self.looks))

    def tries(self, beads, looks):
        if not Plain(self.place, self.first, (beads, looks)).possible():
            raise Refused("Barred", (beads, looks))
        self.beads, self.looks = beads, looks

    def bead(self, door, *, way=-1):
        check(door in range(len(self.place[1])), "NoDoor")
        check(way in (-1, 0, 1), "NoWay")
        self.tries(self.beads + [(door, way)], self.looks)
        return len(self.beads) - 1

    def look(self, room, least, most):
        check(room in range(self.place[0]), "NoRoom")
        self.tries(self.beads, self.looks + [(len(self.beads), room, least, most)])
        return len(self.looks) - 1

    def seen(self, bead, way):
        check(bead in range(len(self.beads)), "NoBead")
        check(way in (0, 1), "NoWay")
        check(self.beads[bead][1] != 1 - way, "Known")
        self.tries([(door, way if at == bead else known) for at, (door, known) in enumerate(self.beads)], self.looks)

    def strike(self, look):
        check(look in range(len(self.looks)), "NoLook")
        self.looks = [row for at, row in enumerate(self.looks) if at != look]

    def mark(self):
        self.marks.append((list(self.beads), list(self.looks)))
        return len(self.marks) - 1

    def undo(self, mark):
        check(mark in range(len(self.marks)), "NoMark")
        del self.marks[mark + 1:]
        self.beads, self.looks = map(list, self.marks[mark])

    def room(self, room, moment):
        check(room in range(self.place[0]), "NoRoom")
        check(moment in range(len(self.beads) + 1), "NoMoment")
        return self.plain().span([room], moment)

    def lot(self, rooms):
        check(all(room in range(self.place[0]) for room in rooms), "NoRoom")
        return self.plain().span(rooms, len(self.beads))

    def sure(self):
        return self.plain().sure()

    def ends(self):
        return self.plain().ends()

    def end_tape(self, numbers):
        """The tape with looks at all rooms for these numbers."""
        now = len(self.beads)
        return self.beads, self.looks + [(now, room, number, number) for room, number in enumerate(numbers)]

    def news(self):
        plain, before = self.plain(), self.told
        self.told = [plain.span([room], len(self.beads)) for room in range(self.place[0])]
        return [(room, *span) for room, span in enumerate(self.told) if span != before[room]]


def chance_deed(chance, plain):
    """(a deed's name, arguments) for a hall that is as this plain one, now and then what is to be refused."""
    rooms, doors = plain.place
    beads, looks, marks = len(plain.beads), len(plain.looks), len(plain.marks)
    return chance.choice((
        ("bead", {"door": near(chance, len(doors))}),
        ("bead", {"door": near(chance, len(doors))}),
        ("bead", {"door": near(chance, len(doors)), "way": near(chance, 2)}),
        ("bead", {"door": near(chance, len(doors)), "way": chance.choice((-2, -1, 0, 1, 2))}),
        ("look", near_look(chance, plain)),
        ("seen", {"bead": near(chance, beads), "way": near(chance, 2)}),
        ("seen", {"bead": near(chance, beads), "way": near(chance, 2)}),
        ("strike", {"look": near(chance, looks)}),
        ("mark", {}),
        ("undo", {"mark": near(chance, marks)}),
    ))


def near(chance, many):
    """A number from 0 on below so many, mostly."""
    if many and chance.random() < 0.9:
        return chance.randrange(many)
    return chance.choice((-1, many, many + 1, -many - 1))


def near_look(chance, plain):
    rooms = plain.place[0]
    room = near(chance, rooms)
    least = plain.room(room % rooms, len(plain.beads))[0] + chance.choice((-2, -1, 0, 0, 1, 2))
    return {"room": room, "least": least, "most": least + chance.choice((-1, 0, 0, 1, 2, 9))}
