"""Laying tapes out in chains, and what the chains then tell of all stories."""

from bothdoors.chains import Chains, Tail, brought, handed, rounds
from bothdoors.tapes import outs_by_looks, wrong_at_first


def laid(house, begin, tape, guess):
    """(chains, None) of a tape that has a story, tried first by the guessed ways; (None, paper) of another one."""
    bounds = outs_by_looks(house, begin, tape)
    paper = _look_paper(begin, tape, bounds)
    if paper is not None:
        return None, paper
    chains = Chains(house, begin)
    for at, (door, way) in enumerate(tape[0]):
        paper = chains.add_bead(door, way, guess[at] if at < len(guess) else 0)
        for room in range(house[0]):
            if paper is None and (at + 1, room) in bounds:
                least, most = bounds[(at + 1, room)]
                paper = chains.add_look(room, least, most)
        if paper is not None:
            return None, paper
    return chains, None


def span_at(chains, room, moment):
    """The least and the greatest number that the room can have behind so many beads."""
    link = [one for one in chains.rows[room] if one.since <= moment][-1]
    least, most = link.least, link.most
    # It is brought as near as can be to each of its bounds, the other one being there, too.
    link.most = least
    brought(link)
    greatest = link.both - 2 * link.outs
    link.least = most
    link.most = most
    brought(link)
    link.least = least
    return link.both - 2 * link.outs, greatest


def span_of(chains, lot):
    """The least and the greatest number that the lot can have behind all beads."""
    lasts = [links[-1] for links in chains.rows]
    asked = Tail()
    asked.lasts = [lasts[room] for room in lot]
    beside = Tail()
    beside.lasts = [link for link in lasts if link not in asked.lasts]
    for tail in (asked, beside):
        for link in tail.lasts:
            link.after = tail
    both = sum([link.both for link in asked.lasts])
    greatest = both - 2 * _outs_after(asked, beside, asked)
    return both - 2 * _outs_after(beside, asked, asked), greatest


def sure_ways(chains):
    """For each bead the way that it has in all stories, -1 where it can have either."""
    numbers = rounds([link for links in chains.rows for link in links])
    # A bead went out of its other room in some story just where what that changes can be handed on round about.
    either = [one.twin is not None and numbers[one] == numbers[other] for one, other in chains.pairs]
    return [-1 if free else way for free, way in zip(either, chains.ways())]


def _look_paper(begin, tape, bounds):
    """The paper of the first moment, then room, with looks that nothing can be as they say; None where none is."""
    wrong = [(0, room) for room in wrong_at_first(begin, tape)]
    wrong = wrong + [place for place, (least, most) in bounds.items() if least > most]
    if not wrong:
        return None
    moment, room = min(wrong)
    return ("look", moment, room)


def _outs_after(start, goal, asked):
    """The outs of the asked tail's chains, as much as can be being handed on from the one tail to the other."""
    while handed(start, goal) is None:
        pass
    return sum([link.outs for link in asked.lasts])
