"""The rows that a desk is told: their words, and what these stand for."""

from stayprice.errors import NoRow
from stayprice.rules import USUAL
from stayprice.texts import number_by, rule_by

LETTERS = "abcdefghijklmnopqrstuvwxyz"
MOST_LETTERS = 8
MOST_FIGURES = 60
SHAPES = {
    "lay": ("NAME", "RULE"),
    "show": ("NAME",),
    "tidy": ("NAME",),
    "worth": ("NAME", "WORD", "DAY"),
    "price": ("NAME", "DAY", "DAY"),
    "best": ("DAY", "DAY"),
    "why": ("DAY", "DAY"),
    "take": ("DAY", "DAY"),
    "back": ("NUMBER",),
    "undo": (),
    "standing": (),
    "full": (),
    "rooms": (),
    "apart": ("NAME", "NAME"),
}


def is_name(word):
    return 1 <= len(word) <= MOST_LETTERS and all([sign in LETTERS for sign in word])


# What the word stands for, None where it is nothing of that kind.
def value_by(kind, word):
    if kind == "NAME":
        return word if is_name(word) else None
    if kind == "WORD":
        return word if word in USUAL else None
    if kind == "RULE":
        return rule_by(word)
    return number_by(word) if len(word) <= MOST_FIGURES else None


# A rule is written as several words, which belong together here.
def words_of(row):
    words = row.split(" ")
    return words[:2] + [" ".join(words[2:])] if words[0] == "lay" else words


# The row as its first word and what the others stand for, in their order.
def read_row(row):
    if not isinstance(row, str):
        raise NoRow("what is no text is no row")
    words = words_of(row)
    shape = SHAPES.get(words[0])
    if shape is None or len(shape) != len(words) - 1:
        raise NoRow("there is no such row")
    things = [value_by(kind, word) for kind, word in zip(shape, words[1:])]
    if any([thing is None for thing in things]):
        raise NoRow("a word of the row is not what it should be")
    return (words[0], things)


def told_as(kind, told):
    return [thing for other, thing in zip(SHAPES[told[0]], told[1]) if other == kind]
