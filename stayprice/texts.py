"""Rules and books as texts, and back."""

from stayprice.books import Book
from stayprice.errors import NoText
from stayprice.rules import is_rule

FIGURES = "0123456789"


def worth_text(worth):
    if worth is None:
        return "none"
    if worth is True:
        return "yes"
    if worth is False:
        return "no"
    if isinstance(worth, tuple):
        return " ".join([str(number) for number in worth])
    return str(worth)


def rule_text(rule):
    return " ".join([rule[0], str(rule[1]), str(rule[2]), worth_text(rule[3])])


def is_number_text(word):
    if word == "" or not all([sign in FIGURES for sign in word]):
        return False
    return word == "0" or word[0] != "0"


def number_by(word):
    return int(word) if is_number_text(word) else None


# Words that are no worth's come out as a tuple that is no deal, never as
# None, for None is itself a worth.
def worth_by(words):
    if words == ["none"]:
        return None
    if words == ["yes"]:
        return True
    if words == ["no"]:
        return False
    numbers = [number_by(word) for word in words]
    if len(numbers) == 1 and numbers[0] is not None:
        return numbers[0]
    return tuple(numbers)


def rule_by(text):
    words = text.split(" ")
    if len(words) < 4:
        return None
    rule = (words[0], number_by(words[1]), number_by(words[2]), worth_by(words[3:]))
    return rule if is_rule(rule) else None


def show_book(book):
    return "".join([rule_text(rule) + "\n" for rule in book.rules()])


def read_book(thing):
    if not isinstance(thing, str):
        raise NoText(0)
    lines = thing.split("\n")
    rules = []
    for number, line in enumerate(lines[:-1]):
        rule = rule_by(line)
        if rule is None:
            raise NoText(number)
        rules.append(rule)
    # What stands behind the last line feed would be a line without one.
    if lines[-1] != "":
        raise NoText(len(rules))
    return Book(rules)
