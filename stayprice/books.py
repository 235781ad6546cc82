"""Books: lists of rules, of which the newer ones hide the elder ones."""

from stayprice.days import less
from stayprice.errors import NoRule, TooMany
from stayprice.rules import rule_of, usual

MOST_RULES = 24


class Book:
    def __init__(self, rules=None):
        self.kept = kept_rules([] if rules is None else rules)

    def rules(self):
        return [rule.told() for rule in self.kept]

    def tells_of(self, word, day):
        for rule in reversed(self.kept):
            if rule.word() == word and rule.tells(day):
                return rule.worth
        return usual(word)


# What is no rule is refused ahead of too many: so the whole list is looked at
# before it is counted.
def kept_rules(things):
    kept = []
    for number, thing in enumerate(things):
        rule = rule_of(thing)
        if rule is None:
            raise NoRule(number)
        kept.append(rule)
    if len(kept) > MOST_RULES:
        raise TooMany(f"a book has at most {MOST_RULES} rules")
    return kept


def laid(elder, newer):
    return Book(elder.rules() + newer.rules())


def shown_days(rule, newer):
    hidden = [(other[1], other[2]) for other in newer if other[0] == rule[0]]
    return less([(rule[1], rule[2])], hidden)


def shown(book):
    rules = book.rules()
    return [shown_days(rule, rules[place + 1:]) for place, rule in enumerate(rules)]
