"""Rules: their words, their worths, and what holds where no rule tells."""

from stayprice.days import MOST_NIGHTS, is_pair, is_stretch, is_whole_within

MOST_COINS = 1000000000000
USUAL = {"price": None, "come": True, "go": True, "least": 1, "most": 14, "deal": None, "fee": 0}


class Rule:
    def __init__(self, first, last, worth):
        self.first = first
        self.last = last
        self.worth = worth

    # A rule is not made by itself: each class under this one has its word.
    def word(self):
        return ""

    def told(self):
        return (self.word(), self.first, self.last, self.worth)

    def tells(self, day):
        return self.first <= day <= self.last


class Price(Rule):
    def word(self):
        return "price"


class Come(Rule):
    def word(self):
        return "come"


class Go(Rule):
    def word(self):
        return "go"


class Least(Rule):
    def word(self):
        return "least"


class Most(Rule):
    def word(self):
        return "most"


class Deal(Rule):
    def word(self):
        return "deal"


class Fee(Rule):
    def word(self):
        return "fee"


def usual(word):
    return USUAL[word]


def is_coins(thing):
    return is_whole_within(thing, 0, MOST_COINS)


def is_deal(thing):
    return (
        is_pair(thing)
        and is_whole_within(thing[0], 2, MOST_NIGHTS)
        and is_whole_within(thing[1], 1, thing[0] - 1)
    )


# The word may be anything here, also a list: so it is compared, not looked up.
def is_worth(word, thing):
    if word == "price":
        return thing is None or is_coins(thing)
    if word == "come" or word == "go":
        return isinstance(thing, bool)
    if word == "least" or word == "most":
        return is_whole_within(thing, 1, MOST_NIGHTS)
    if word == "deal":
        return thing is None or is_deal(thing)
    return word == "fee" and is_coins(thing)


def is_rule(thing):
    return (
        isinstance(thing, tuple)
        and len(thing) == 4
        and is_stretch((thing[1], thing[2]))
        and is_worth(thing[0], thing[3])
    )


def made(word, first, last, worth):
    if word == "price":
        return Price(first, last, worth)
    if word == "come":
        return Come(first, last, worth)
    if word == "go":
        return Go(first, last, worth)
    if word == "least":
        return Least(first, last, worth)
    if word == "most":
        return Most(first, last, worth)
    if word == "deal":
        return Deal(first, last, worth)
    return Fee(first, last, worth)


def rule_of(thing):
    if not is_rule(thing):
        return None
    return made(thing[0], thing[1], thing[2], thing[3])
