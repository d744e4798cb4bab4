"""The chains of a tape: how many of its first beads went out of each room, from one bead of the room to the next.

Each bead went out of one room, and counts there from its moment on: so it runs along that room's chain, link by link,
to the tail behind all beads. A tape has a story just where all links can have their outs within what rooms and looks
let. Where one has not, one more or one less is handed on from it round about, along chains and from a bead's one room
to the other one, as far as other links let. What one comes to, where that does not suffice, shows a paper.
"""


class Tail:
    """Where chains end, behind all beads."""

    def __init__(self):
        self.lasts = []

    def steps(self):
        """The links to which one more is handed on from here."""
        return [link for link in self.lasts if link.outs > link.least]

    def hand(self, there):
        """Hands one more on from here."""
        there.outs -= 1


class Link:
    """A room from one of its beads (or the beginning) up to the next one."""

    def __init__(self, since, both, outs, tail):
        self.since = since
        # What the room had at first and met, and how much of that went out of it.
        self.both = both
        self.outs = outs
        # How much can at least and at most, and the moments that say so; behind no beads nobody went out.
        self.least = 0
        self.least_at = since
        self.most = both // 2 if since > 0 else 0
        self.most_at = since
        self.before = None
        self.after = tail
        # Whether its bead left this room, and, where that may be otherwise, the link of its bead in the other room.
        self.left = False
        self.twin = None

    def steps(self):
        """The links, or the tail, to which one more is handed on from here."""
        found = []
        before = self.before
        if before is not None and before.outs > before.least:
            found.append(before)
        if self.left and self.twin is not None:
            found.append(self.twin)
        # What stands last is tried first: as a rule one comes to the goal soonest along the chain.
        if self.outs < self.most:
            found.append(self.after)
        return found

    def hand(self, there):
        """Hands one more on from here."""
        if self.after == there:
            self.outs += 1
        elif self.twin == there:
            self.left = False
            there.left = True
        else:
            there.outs -= 1


class Chains:
    """The chains of all rooms, by a story of the beads and looks that were added so far."""

    def __init__(self, house, begin):
        tail = Tail()
        tail.lasts = [Link(0, had, 0, tail) for had in begin]
        self.doors = house[1]
        self.tail = tail
        # For each room its links, and for each bead its two links, by its ways.
        self.rows = [[link] for link in tail.lasts]
        self.pairs = []

    def add_bead(self, door, way, guess):
        """Adds a bead that went this way, or, unseen, perhaps the guessed one; told is a paper against it, or None."""
        one, other = [self._added(room) for room in self.doors[door]]
        self.pairs.append((one, other))
        if way == -1:
            one.twin = other
            other.twin = one
        link = one if (guess if way == -1 else way) == 0 else other
        link.left = True
        link.outs += 1
        return self._mended(link)

    def add_look(self, room, least, most):
        """Adds what looks now say of the room's outs; told is a paper against it, or None."""
        link = self.tail.lasts[room]
        moment = len(self.pairs)
        if least > link.least:
            link.least = least
            link.least_at = moment
        if most < link.most:
            link.most = most
            link.most_at = moment
        # Two moments between which the room met no bead: nothing else bears on what they say.
        if link.least > link.most and link.least_at > link.most_at:
            return ("few", [(room, link.most_at + 1, link.least_at)])
        if link.least > link.most:
            return ("many", [(room, link.least_at + 1, link.most_at)])
        return self._mended(link)

    def ways(self):
        """The story: the way of each bead."""
        return [0 if one.left else 1 for one, _ in self.pairs]

    def _added(self, room):
        """A new last link of the room, with its new bead."""
        tail = self.tail
        last = tail.lasts[room]
        link = Link(len(self.pairs) + 1, last.both + 1, last.outs, tail)
        link.before = last
        last.after = link
        tail.lasts[room] = link
        self.rows[room].append(link)
        return link

    def _mended(self, link):
        """Brings a link within its bounds; told is a paper against that, or None."""
        cut = brought(link)
        return None if cut is None else self._paper(cut)

    def _paper(self, cut):
        """The paper that a cut shows: of its stretches, or, where the tail is in it, of the stretches beside it."""
        few = self.tail in cut
        stretches = []
        for room, links in enumerate(self.rows):
            first = 1
            for link in links[1:]:
                if (link in cut) == few:
                    first = (link.most_at if few else link.least_at) + 1
                elif (link.after in cut) == few:
                    stretches.append((room, first, link.least_at if few else link.most_at))
        return ("few" if few else "many", stretches)


def brought(link):
    """Brings a link within its bounds, the others staying within theirs: None; else the cut that lets it no nearer."""
    while link.outs > link.most:
        cut = handed(link, link.after)
        if cut is not None:
            return cut
        link.outs -= 1
    while link.outs < link.least:
        cut = handed(link.after, link)
        if cut is not None:
            return cut
        link.outs += 1
    return None


def handed(start, goal):
    """Hands one more on from the start to the goal: None; where that cannot be, all that one comes to: the cut."""
    came = _reached(start, goal)
    if goal not in came:
        return came
    there = goal
    while there != start:
        here = came[there]
        here.hand(there)
        there = here
    return None


def rounds(links):
    """For each link a number, the same for those between which one can be handed on there and back again."""
    came = _last_left_first(links)
    sources = {link: [] for link in came}
    for here in came:
        for there in here.steps():
            sources[there].append(here)
    numbers = {}
    for number, goal in enumerate(came):
        # What leads here and has no number yet, one also comes to from here: else it would stand further ahead.
        todo = [goal]
        while todo:
            here = todo.pop()
            if here not in numbers:
                numbers[here] = number
                todo.extend(sources[here])
    return numbers


def _last_left_first(links):
    """The links and all that one comes to from them, each left when one has gone on from it: the last left is first."""
    came = {}
    left = []
    todo = [(link, False) for link in links]
    while todo:
        here, gone_on = todo.pop()
        if gone_on:
            left.append(here)
        elif here not in came:
            came[here] = True
            todo.append((here, True))
            todo.extend([(there, False) for there in here.steps() if there not in came])
    return left[::-1]


def _reached(start, goal):
    """What one comes to from the start until the goal is found, each with the one ahead of it."""
    came = {start: None}
    todo = [start]
    while todo and goal not in came:
        here = todo.pop()
        for there in here.steps():
            if there not in came:
                came[there] = here
                todo.append(there)
    return came
