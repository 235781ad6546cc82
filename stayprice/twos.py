"""Two books: whether they are alike for every stay, and else the first of the shortest stays that tell."""

from stayprice.bars import cost_or_none
from stayprice.days import LAST_DAY, MOST_NIGHTS
from stayprice.errors import TooMany

MOST_RULES_APART = 12


# The days of coming on which what the rule tells of a stay of so many nights
# is another than of the stay that comes a day earlier.
def turns_by(rule, many):
    edges = [rule[1], rule[2] + 1]
    if rule[0] == "go":
        return [edge - many for edge in edges]
    if rule[0] != "price":
        return edges
    found = []
    for edge in edges:
        found.extend(list(range(edge - many + 1, edge + 1)))
    return found


# Between two such days the stays of so many nights are told alike: so the
# first one for which two books are unlike comes on one of these days.
def turns(rules, many):
    found = [0]
    for rule in rules:
        found.extend(turns_by(rule, many))
    return [day for day in sorted(set(found)) if 0 <= day <= LAST_DAY - many]


def apart(one, other):
    rules = one.rules()
    others = other.rules()
    if max(len(rules), len(others)) > MOST_RULES_APART:
        raise TooMany(f"two books of at most {MOST_RULES_APART} rules are held against one another")
    for many in range(1, MOST_NIGHTS + 1):
        for come in turns(rules + others, many):
            stay = (come, come + many)
            coins = cost_or_none(one, stay)
            others_coins = cost_or_none(other, stay)
            if coins != others_coins:
                return (stay, coins, others_coins)
    return None
