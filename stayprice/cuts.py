"""Cuts: a stay in parts, each taken by one of several books, for the least coins."""

from stayprice.bars import cost_or_none
from stayprice.days import is_stay


# Each part that leads to the day from one that can be reached, and what the
# least way costs that ends with it.
def arrivals(books, ways, day):
    found = []
    for begin in ways:
        for number, book in enumerate(books):
            coins = cost_or_none(book, (begin, day))
            if coins is not None:
                found.append((ways[begin][0] + coins, (begin, day, number)))
    return found


# The days that can be reached from the day of coming, rising, each with the
# coins of the least way there and the last part of that way.
def least_ways(books, stay):
    ways = {stay[0]: (0, None)}
    for day in range(stay[0] + 1, stay[1] + 1):
        found = arrivals(books, ways, day)
        if found:
            ways[day] = min(found)
    return ways


def cut_of(ways, stay):
    backwards = []
    day = stay[1]
    while day != stay[0]:
        part = ways[day][1]
        backwards.append(part)
        day = part[0]
    return list(reversed(backwards))


# A night's number is by how much the least coins rise over it, so no part can
# cost less than its nights' numbers. A day that can't be reached is put as
# high as the highest one: a part that begins there rises by nothing then, and
# none leads there from below.
def paper_of(ways, stay):
    highest = max([way[0] for way in ways.values()])
    heights = [ways[day][0] if day in ways else highest for day in range(stay[0], stay[1] + 1)]
    return [higher - lower for lower, higher in zip(heights[:-1], heights[1:])]


def best(books, stay):
    ways = least_ways(books, stay)
    if stay[1] not in ways:
        return ("off", list(ways))
    return ("had", ways[stay[1]][0], cut_of(ways, stay), paper_of(ways, stay))


def cheapest(books, many, first, last):
    told = None
    for come in range(first, last + 1):
        stay = (come, come + many)
        ways = least_ways(books, stay) if is_stay(stay) else {}
        if stay[1] in ways and (told is None or ways[stay[1]][0] < told[1]):
            told = (stay, ways[stay[1]][0])
    return told
