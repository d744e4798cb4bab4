"""Small houses with beginnings and counts, of which all rows of goings can be gone, and big ones by fixed chance."""

import itertools
import random

HUGE = 10 ** 20 - 1

DOORS = {
    1: [[]],
    2: [[], [(0, 1)], [(1, 0)], [(0, 1), (1, 0)], [(1, 0), (1, 0), (0, 1)]],
    3: [[], [(1, 2)], [(0, 2)], [(0, 1), (1, 2)], [(2, 0), (1, 2)], [(0, 2), (2, 0)],
        [(0, 1), (1, 2), (2, 0)], [(1, 0), (0, 1), (1, 2)]],
}
MOST_COUNT = {0: 0, 1: 5, 2: 3, 3: 2}
MOST_FOLK = {1: 4, 2: 4, 3: 3}


def small_cases():
    """(house, begin, counts): all of a few rooms, doors, folk and counts, and some of four and five rooms."""
    for rooms, plans in DOORS.items():
        for doors in plans:
            for begin in itertools.product(range(MOST_FOLK[rooms] + 1), repeat=rooms):
                if sum(begin) > MOST_FOLK[rooms]:
                    continue
                for counts in itertools.product(range(MOST_COUNT[len(doors)] + 1), repeat=len(doors)):
                    yield (rooms, list(doors)), list(begin), list(counts)
    chance = random.Random(4)
    for _ in range(200):
        yield chance_case(chance, chance.choice((4, 5)), 6, 2, 3)


def big_cases(many, rooms=10, doors=24, folk=HUGE, count=HUGE):
    """(house, begin, counts) with many rooms and doors, and numbers of up to twenty figures."""
    chance = random.Random(rooms * doors + many)
    for _ in range(many):
        yield chance_case(chance, rooms, doors, folk, count)


def chance_case(chance, rooms, doors, folk, count):
    house = (rooms, chance_doors(chance, rooms, chance.choice((doors, chance.randint(0, doors)))))
    begin = [chance.choice((0, chance.randint(0, folk))) for _ in range(rooms)]
    counts = [chance.choice((0, chance.randint(0, count), chance.randint(0, count))) for _ in house[1]]
    return house, begin, counts


def chance_doors(chance, rooms, many):
    return [tuple(chance.sample(range(rooms), 2)) for _ in range(many)] if rooms > 1 else []


def near_ends(rooms, folk):
    """All lists of so many numbers from -1 on that come to just so much."""
    if rooms == 1:
        return [[folk]]
    return [[first] + others for first in range(-1, folk + rooms) for others in near_ends(rooms - 1, folk - first)]


def split_end(chance, house, begin, counts):
    """An end that some split of the counts leads to, perhaps with numbers below 0 in it."""
    end = list(begin)
    for (a, b), count in zip(house[1], counts):
        there = chance.choice((0, count, chance.randint(0, count), count // 2))
        end[a] += count - 2 * there
        end[b] += 2 * there - count
    return end
