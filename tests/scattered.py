"""What several test files need: worths of each word, scattered books, and a second way to tell what they tell."""

import unittest

LAST = 10 ** 6
COINS = 10 ** 12
HUGE = 10 ** 60 - 1
WORDS = ("price", "come", "go", "least", "most", "deal", "fee")
ELSE = {"price": None, "come": True, "go": True, "least": 1, "most": 14, "deal": None, "fee": 0}
WORTHS = {
    "price": (0, 1, 9, 10, 140, 999, COINS - 1, COINS, None),
    "come": (True, False),
    "go": (True, False),
    "least": (1, 2, 3, 7, 10, 13, 14),
    "most": (1, 2, 3, 7, 10, 13, 14),
    "deal": ((2, 1), (3, 1), (3, 2), (7, 2), (10, 9), (14, 1), (14, 13), None),
    "fee": (0, 1, 9, 10, 35, COINS - 1, COINS),
}
# Things of any kind, none of which is a rule.
NO_RULES = (
    None, True, False, 0, 5, -1, HUGE, -HUGE, "", "price", "price 3 9 none", "price 3 9 5\n", [], (), [5], (5,), [[5]],
    [("price", 3, 9, 5)], (("price", 3, 9, 5),), ["price", 3, 9, 5], ("price", 3, 9), ("price", 3, 9, 5, 5),
    ("price", 9, 3, 5), ("price", -1, 9, 5), ("price", 3, LAST + 1, 5), ("price", 3, 9, -1), ("price", 3, 9, COINS + 1),
    ("price", 3, 9, True), ("price", False, 9, 5), ("price", 3, 9, "5"), ("prices", 3, 9, 5), ("", 3, 9, 5),
    ("come", 3, 9, 1), ("come", 3, 9, None), ("go", 3, 9, 0), ("least", 3, 9, 0), ("least", 3, 9, 15),
    ("most", 3, 9, None), ("most", 3, 9, 15), ("deal", 3, 9, [7, 2]), ("deal", 3, 9, (7, 7)), ("deal", 3, 9, (1, 1)),
    ("deal", 3, 9, (15, 1)), ("deal", 3, 9, 7), ("fee", 3, 9, None), ("fee", 3, 9, COINS + 1), (["fee"], 3, 9, 5),
    ([["fee"]], [[3]], [[9]], [[5]]), ((("fee",),), 3, 9, 5),
)


def numbers(seed):
    # The same row of numbers for the same seed, under every Python.
    state = seed * 2654435761 % 2 ** 32 + 1
    while True:
        state = (state * 6364136223846793005 + 1442695040888963407) % 2 ** 64
        yield state >> 33


def scattered_rules(seed, many, days=12, begin=0, words=WORDS):
    """So many rules over so many days from begin on."""
    row = numbers(seed)
    rules = []
    for step in range(many):
        word = words[next(row) % len(words)]
        first = next(row) % days
        last = first + next(row) % (days - first)
        rules.append((word, begin + first, begin + last, WORTHS[word][next(row) % len(WORTHS[word])]))
    return rules


def due_worth(rules, word, day):
    worth = ELSE[word]
    for rule in rules:
        if rule[0] == word and day in range(rule[1], rule[2] + 1):
            worth = rule[3]
    return worth


def alike(rules):
    """Just so many rules as one of the words tells, unlike by their coins."""
    return [("price", step, step + 3, 100 + step) for step in range(rules)]


class Told(unittest.TestCase):
    def same(self, told, due, handed=None):
        # By repr: True is no 1, and a list is no tuple.
        self.assertEqual(repr(told), repr(due), handed)
