"""Reasons: the hindrances of a stay by several books, and which of them hold it off."""

from stayprice.days import nights_of
from stayprice.errors import Had


def hindrances_by(number, book, stay):
    come = stay[0]
    go = stay[1]
    nights = nights_of(stay)
    found = [("price", day) for day in nights if book.tells_of("price", day) is None]
    found.extend([("come", day) for day in nights if not book.tells_of("come", day)])
    found.extend([("go", day) for day in range(come + 1, go + 1) if not book.tells_of("go", day)])
    found.extend([("least", day) for day in nights if book.tells_of("least", day) > 1])
    found.extend([("most", day) for day in nights if book.tells_of("most", day) < go - day])
    return [(number, word, day) for word, day in found]


def hindrances(books, stay):
    found = []
    for number, book in enumerate(books):
        found.extend(hindrances_by(number, book, stay))
    return found


# Whether the book lets the stay be had where the hindrances in force alone
# stand in its way.
def lets(number, book, stay, force):
    come = stay[0]
    many = stay[1] - come
    if (number, "come", come) in force or (number, "go", stay[1]) in force:
        return False
    if (number, "least", come) in force and many < book.tells_of("least", come):
        return False
    if (number, "most", come) in force and many > book.tells_of("most", come):
        return False
    return not any([(number, "price", night) in force for night in nights_of(stay)])


def leads_to(books, begins, day, force):
    for begin in begins:
        if any([lets(number, book, (begin, day), force) for number, book in enumerate(books)]):
            return True
    return False


def is_held_off(books, stay, some):
    # A dict, for it is asked at each night of each stay within the stay.
    force = dict([(hindrance, True) for hindrance in some])
    reached = [stay[0]]
    for day in range(stay[0] + 1, stay[1] + 1):
        if leads_to(books, reached, day, force):
            reached.append(day)
    return stay[1] not in reached


def holds_off(books, stay, some):
    return is_held_off(books, stay, [hindrance for hindrance in hindrances(books, stay) if hindrance in some])


# One by one what is not needed is left out. What was needed once stays needed
# when more is left out, for fewer hindrances hold off no more.
def why(books, stay):
    left = hindrances(books, stay)
    if not is_held_off(books, stay, left):
        raise Had("the stay has a cut")
    for hindrance in list(left):
        fewer = [other for other in left if other != hindrance]
        if is_held_off(books, stay, fewer):
            left = fewer
    return left
