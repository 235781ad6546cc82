"""Tidying: where two books tell otherwise, and a book without needless rules."""

from stayprice.books import Book
from stayprice.rules import USUAL


# Between two such days what the rules tell of the word does not change.
def edges(rules, word):
    found = [0]
    for rule in rules:
        if rule[0] == word:
            found.extend([rule[1], rule[2] + 1])
    return sorted(set(found))


def unlike(one, other):
    rules = one.rules() + other.rules()
    for word in USUAL:
        for day in edges(rules, word):
            if one.tells_of(word, day) != other.tells_of(word, day):
                return (word, day)
    return None


# The elder rules go first. One that is kept shows on some day, and tells
# otherwise there than the elder ones that are kept: so it stays needed,
# whichever of the newer ones is left out later.
def tidied(book):
    rules = book.rules()
    left = []
    for place, rule in enumerate(rules):
        if unlike(book, Book(left + rules[place + 1:])) is not None:
            left.append(rule)
    return Book(left)
