"""The errors with which the program refuses."""


class NoText(ValueError):
    """A text that is not written as a house is."""


class NoEnd(ValueError):
    """An end is asked for where none is possible."""


class NoStory(ValueError):
    """Something is asked of a tape that has no story."""


class NoDoor(LookupError):
    """No door of the house."""


class NoRoom(LookupError):
    """No room of the house."""


class NoWay(ValueError):
    """No way through a door."""


class NoBead(LookupError):
    """No bead of the tape."""


class NoLook(LookupError):
    """No look of the tape."""


class NoMoment(LookupError):
    """No moment of the tape."""


class NoMark(KeyError):
    """No mark of the hall."""


class Known(ValueError):
    """A bead's way is known to be the other one."""


class Barred(ValueError):
    """A deed behind which the tape has no story; its paper tells why."""

    def __init__(self, paper):
        ValueError.__init__(self, "behind this the tape has no story")
        # Some papers name a list, which stays the giver's own: a copy is kept.
        self.paper = tuple([list(part) if isinstance(part, list) else part for part in paper])
