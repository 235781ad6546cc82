"""What several test files need: worths of each word, scattered books, and a second way to tell what they tell."""

import itertools
import unittest

from stayprice.books import Book

LAST = 10 ** 6
COINS = 10 ** 12
HUGE = 10 ** 60 - 1
WORDS = ("price", "come", "go", "least", "most", "deal", "fee")
ELSE = {"price": None, "come": True, "go": True, "least": 1, "most": 14, "deal": None, "fee": 0}
WORTHS = {
    "price": (0, 1, 9, 10, 140, 999, COINS - 1, COINS, None),
    "come": (True, False),
    "go": (True, False),
    "least": (1, 2, 3, 7, 10, 13, 14),
    "most": (1, 2, 3, 7, 10, 13, 14),
    "deal": ((2, 1), (3, 1), (3, 2), (7, 2), (10, 9), (14, 1), (14, 13), None),
    "fee": (0, 1, 9, 10, 35, COINS - 1, COINS),
}
# Worths that leave short stays to be had by some ways, and not by others.
SHORT = {
    "price": (0, 1, 5, 10, 20, None),
    "come": (True, False),
    "go": (True, False),
    "least": (1, 2, 3, 4),
    "most": (1, 2, 3, 14),
    "deal": ((2, 1), (3, 1), (3, 2), (4, 3), None),
    "fee": (0, 1, 3, 20),
}
# Things of any kind, none of which is a rule.
NO_RULES = (
    None, True, False, 0, 5, -1, HUGE, -HUGE, "", "price", "price 3 9 none", "price 3 9 5\n", [], (), [5], (5,), [[5]],
    [("price", 3, 9, 5)], (("price", 3, 9, 5),), ["price", 3, 9, 5], ("price", 3, 9), ("price", 3, 9, 5, 5),
    ("price", 9, 3, 5), ("price", -1, 9, 5), ("price", 3, LAST + 1, 5), ("price", 3, 9, -1), ("price", 3, 9, COINS + 1),
    ("price", 3, 9, True), ("price", False, 9, 5), ("price", 3, 9, "5"), ("prices", 3, 9, 5), ("", 3, 9, 5),
    ("come", 3, 9, 1), ("come", 3, 9, None), ("go", 3, 9, 0), ("least", 3, 9, 0), ("least", 3, 9, 15),
    ("most", 3, 9, None), ("most", 3, 9, 15), ("deal", 3, 9, [7, 2]), ("deal", 3, 9, (7, 7)), ("deal", 3, 9, (1, 1)),
    ("deal", 3, 9, (15, 1)), ("deal", 3, 9, 7), ("fee", 3, 9, None), ("fee", 3, 9, COINS + 1), (["fee"], 3, 9, 5),
    ([["fee"]], [[3]], [[9]], [[5]]), ((("fee",),), 3, 9, 5),
)


def numbers(seed):
    # The same row of numbers for the same seed, under every Python.
    state = seed * 2654435761 % 2 ** 32 + 1
    while True:
        state = (state * 6364136223846793005 + 1442695040888963407) % 2 ** 64
        yield state >> 33


def scattered_rules(seed, many, days=12, begin=0, words=WORDS, worths=WORTHS):
    """So many rules over so many days from begin on."""
    row = numbers(seed)
    rules = []
    for step in range(many):
        word = words[next(row) % len(words)]
        first = next(row) % days
        last = first + next(row) % (days - first)
        rules.append((word, begin + first, begin + last, worths[word][next(row) % len(worths[word])]))
    return rules


def scattered_rows(seed, many, days=9, begin=0):
    """The rules of so many books, at most ten each, by which many short stays can be had."""
    rows = []
    for number in range(many):
        row = seed * 7 + number
        first = [("price", begin, begin + days - 1, 10 + row % 3)] if row % 4 else []
        rows.append(first + scattered_rules(row, row % 10, days, begin, WORDS, SHORT))
    return rows


def books_of(rows):
    return [Book(rules) for rules in rows]


def due_worth(rules, word, day):
    worth = ELSE[word]
    for rule in rules:
        if rule[0] == word and day in range(rule[1], rule[2] + 1):
            worth = rule[3]
    return worth


def due_marks(prices, deal):
    """A price is marked where fewer than so many of its bundle go ahead of it."""
    if deal is None:
        return [False] * len(prices)
    many, free = deal
    marks = []
    for place, price in enumerate(prices):
        begin = place // many * many
        ahead = [
            other for other in range(begin, min(begin + many, len(prices)))
            if prices[other] < price or (prices[other] == price and other > place)
        ]
        marks.append(begin + many <= len(prices) and len(ahead) < free)
    return marks


def due_bill(rules, stay):
    """The bill, or the first night that is not sold."""
    nights = range(stay[0], stay[1])
    prices = [due_worth(rules, "price", night) for night in nights]
    if None in prices:
        return stay[0] + prices.index(None)
    marks = due_marks(prices, due_worth(rules, "deal", stay[0]))
    fee = due_worth(rules, "fee", stay[0])
    total = fee
    for price, mark in zip(prices, marks):
        total += 0 if mark else price
    return (total, [row for row in zip(nights, prices, marks)], fee)


def due_bars(rules, stay):
    come, go = stay
    every = [("price", night, due_worth(rules, "price", night) is None) for night in range(come, go)]
    every.append(("come", come, due_worth(rules, "come", come) is False))
    every.append(("go", go, due_worth(rules, "go", go) is False))
    every.append(("least", come, go < come + due_worth(rules, "least", come)))
    every.append(("most", come, go > come + due_worth(rules, "most", come)))
    return [(word, day) for word, day, bar in every if bar]


def due_cost(rules, stay):
    """What the stay costs, or None."""
    return None if due_bars(rules, stay) else due_bill(rules, stay)[0]


def due_parts(rows, stay):
    """Each part of the stay, with what it costs."""
    parts = {}
    for begin, end in itertools.combinations(range(stay[0], stay[1] + 1), 2):
        for number, rules in enumerate(rows):
            coins = due_cost(rules, (begin, end))
            if coins is not None:
                parts[(begin, end, number)] = coins
    return parts


def all_cuts(parts, come, go):
    """All cuts, one by one."""
    if come == go:
        yield []
    for part in parts:
        if part[0] == come:
            for cut in all_cuts(parts, part[1], go):
                yield [part] + cut


def due_least(parts, stay):
    """What the least cut costs, reckoned from the end; None without a cut."""
    least = {stay[1]: 0}
    for day in range(stay[1] - 1, stay[0] - 1, -1):
        sums = [parts[part] + least[part[1]] for part in parts if part[0] == day and part[1] in least]
        if sums:
            least[day] = min(sums)
    return least.get(stay[0])


def alike(rules):
    """Just so many rules as one of the words tells, unlike by their coins."""
    return [("price", step, step + 3, 100 + step) for step in range(rules)]


class Told(unittest.TestCase):
    def same(self, told, due, handed=None):
        # By repr: True is no 1, and a list is no tuple.
        self.assertEqual(repr(told), repr(due), handed)


class BestTold(Told):
    def is_best(self, told, parts, stay, handed):
        """Holds a best against every part of the stay; tells the coins due, or None."""
        self.assertIs(type(told), tuple, handed)
        due = due_least(parts, stay)
        if due is None:
            self.off(told, parts, stay, handed)
        else:
            self.had(told, parts, stay, due, handed)
        return due

    def had(self, told, parts, stay, due, handed):
        self.assertEqual(len(told), 4, handed)
        word, coins, cut, paper = told
        self.same((word, coins), ("had", due), handed)
        self.assertIs(type(cut), list, handed)
        day = stay[0]
        for part in cut:
            self.same([type(thing) for thing in part], [int, int, int], handed)
            self.assertIs(type(part), tuple, handed)
            self.assertIn(part, parts, handed)
            self.assertEqual(part[0], day, handed)
            day = part[1]
        self.assertEqual(day, stay[1], handed)
        self.assertEqual(sum(parts[part] for part in cut), due, handed)
        self.paper(paper, parts, stay, due, handed)

    def paper(self, paper, parts, stay, due, handed):
        self.assertIs(type(paper), list, handed)
        self.assertEqual(len(paper), stay[1] - stay[0], handed)
        self.assertTrue(all(type(number) is int for number in paper), handed)
        self.assertEqual(sum(paper), due, handed)
        for part in parts:
            nights = range(part[0], part[1])
            self.assertLessEqual(sum(paper[night - stay[0]] for night in nights), parts[part], handed)

    def off(self, told, parts, stay, handed):
        self.assertEqual(len(told), 2, handed)
        word, days = told
        self.same(word, "off", handed)
        self.assertIs(type(days), list, handed)
        self.assertTrue(all(type(day) is int for day in days), handed)
        self.assertEqual(days, sorted(set(days)), handed)
        self.assertIn(stay[0], days, handed)
        self.assertNotIn(stay[1], days, handed)
        self.assertTrue(all(stay[0] <= day <= stay[1] for day in days), handed)
        for part in parts:
            self.assertFalse(part[0] in days and part[1] not in days, handed)
