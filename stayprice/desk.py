"""The desk: it is told rows of words, and answers each with a text."""

from stayprice.bars import cost
from stayprice.books import Book
from stayprice.closed import why_without
from stayprice.days import is_day, is_stay
from stayprice.errors import Barred, Had, NoStay
from stayprice.inn import Inn
from stayprice.rows import read_row, told_as
from stayprice.texts import rule_text, worth_text
from stayprice.twos import apart


def or_dash(text):
    return "-" if text == "" else text


def book_of(inn, name):
    return Book(inn.rules_of(name))


def stay_text(stay):
    come = stay[0]
    go = stay[1]
    return f"{come}-{go}"


def part_text(inn, part):
    days = stay_text(part)
    name = inn.names[part[2]]
    return f"{days}:{name}"


def standing_text(entry):
    number = entry[0]
    days = stay_text(entry[1])
    coins = entry[2]
    return f"{number}:{days}:{coins}"


def coins_text(coins):
    return "barred" if coins is None else str(coins)


def answer_lay(inn, told):
    inn.lay(told[0], [told[1]])
    return "ok"


def answer_show(inn, told):
    return or_dash("; ".join([rule_text(rule) for rule in inn.rules_of(told[0])]))


def answer_tidy(inn, told):
    inn.tidy(told[0])
    return "ok"


def answer_worth(inn, told):
    return worth_text(book_of(inn, told[0]).tells_of(told[1], told[2]))


def answer_price(inn, told):
    try:
        return str(cost(book_of(inn, told[0]), (told[1], told[2])))
    except Barred as refusal:
        return "barred " + "; ".join([f"{word} {day}" for word, day in refusal.bars])


def answer_best(inn, told):
    found = inn.best((told[0], told[1]))
    if found[0] == "off":
        return " ".join(["off"] + [str(day) for day in found[1]])
    return " ".join(["had", str(found[1])] + [part_text(inn, part) for part in found[2]])


def answer_why(inn, told):
    try:
        found = why_without(inn.books, inn.full(), (told[0], told[1]))
    except Had:
        return "had"
    named = [(inn.names[number], word, day) for number, word, day in found]
    return "; ".join([f"{name} {word} {day}" for name, word, day in named])


def answer_take(inn, told):
    number = inn.take((told[0], told[1]))
    # The newest stay stands last.
    coins = inn.standing()[-1][2]
    return f"{number} {coins}"


def answer_back(inn, told):
    inn.give_back(told[0])
    return "ok"


def answer_undo(inn, told):
    inn.undo()
    return "ok"


def answer_standing(inn, told):
    return or_dash(" ".join([standing_text(entry) for entry in inn.standing()]))


def answer_full(inn, told):
    return or_dash(" ".join([str(night) for night in inn.full()]))


def answer_rooms(inn, told):
    return or_dash(" ".join([f"{number}:{room}" for number, room in inn.rooms()]))


def answer_apart(inn, told):
    found = apart(book_of(inn, told[0]), book_of(inn, told[1]))
    if found is None:
        return "alike"
    return " ".join([stay_text(found[0]), coins_text(found[1]), coins_text(found[2])])


ANSWERS = {
    "lay": answer_lay,
    "show": answer_show,
    "tidy": answer_tidy,
    "worth": answer_worth,
    "price": answer_price,
    "best": answer_best,
    "why": answer_why,
    "take": answer_take,
    "back": answer_back,
    "undo": answer_undo,
    "standing": answer_standing,
    "full": answer_full,
    "rooms": answer_rooms,
    "apart": answer_apart,
}


def refuse_days(days):
    if len(days) == 1 and not is_day(days[0]):
        raise NoStay("there is no such day")
    if len(days) == 2 and not is_stay((days[0], days[1])):
        raise NoStay("these days are no stay")


class Desk:
    def __init__(self, rooms, names):
        self.inn = Inn(rooms, [(name, []) for name in names])

    def say(self, row):
        told = read_row(row)
        # The inn refuses a name that no book has.
        for name in told_as("NAME", told):
            self.inn.place_of(name)
        refuse_days(told_as("DAY", told))
        return ANSWERS[told[0]](self.inn, told[1])
