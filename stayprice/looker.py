"""The looker: whether something is a cut, or a best, without looking for one."""

from stayprice.bars import can_be_had, cost, cost_or_none
from stayprice.days import is_whole


def is_part(books, stay, thing):
    if not isinstance(thing, tuple) or len(thing) != 3:
        return False
    if not all([is_whole(number) for number in thing]):
        return False
    if not stay[0] <= thing[0] < thing[1] <= stay[1]:
        return False
    return 0 <= thing[2] < len(books) and can_be_had(books[thing[2]], (thing[0], thing[1]))


def is_cut(books, stay, thing):
    if not isinstance(thing, list):
        return False
    day = stay[0]
    for part in thing:
        if not is_part(books, stay, part) or part[0] != day:
            return False
        day = part[1]
    return day == stay[1]


def cut_coins(books, cut):
    return sum([cost(books[part[2]], (part[0], part[1])) for part in cut])


def is_list_of_wholes(thing):
    return isinstance(thing, list) and all([is_whole(number) for number in thing])


def costs_no_less(books, stay, coins):
    told = [cost_or_none(book, stay) for book in books]
    return all([other is None or other >= coins for other in told])


def no_part_costs_less(books, stay, paper):
    for begin in range(stay[0], stay[1]):
        coins = 0
        for night in range(begin, stay[1]):
            coins = coins + paper[night - stay[0]]
            if not costs_no_less(books, (begin, night + 1), coins):
                return False
    return True


def is_had(books, stay, coins, cut, paper):
    if not is_whole(coins) or not is_cut(books, stay, cut) or coins != cut_coins(books, cut):
        return False
    if not is_list_of_wholes(paper) or len(paper) != stay[1] - stay[0] or coins != sum(paper):
        return False
    return no_part_costs_less(books, stay, paper)


def leads_out(books, day, go, days):
    for other in range(day + 1, go + 1):
        if other not in days and any([can_be_had(book, (day, other)) for book in books]):
            return True
    return False


def is_rising_from(days, first):
    return days != [] and days[0] == first and all([lower < higher for lower, higher in zip(days[:-1], days[1:])])


def is_off(books, stay, days):
    if not is_list_of_wholes(days) or not is_rising_from(days, stay[0]) or days[-1] >= stay[1]:
        return False
    return not any([leads_out(books, day, stay[1], days) for day in days])


def lets_by(books, stay, thing):
    if not isinstance(thing, tuple):
        return False
    if len(thing) == 4 and thing[0] == "had":
        return is_had(books, stay, thing[1], thing[2], thing[3])
    return len(thing) == 2 and thing[0] == "off" and is_off(books, stay, thing[1])
