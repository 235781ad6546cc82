"""Bars: all that keeps a stay from being had by a book, and what it costs else."""

from stayprice.days import nights_of
from stayprice.errors import Barred
from stayprice.prices import bill


def bars(book, stay):
    come = stay[0]
    go = stay[1]
    told = [("price", night) for night in nights_of(stay) if book.tells_of("price", night) is None]
    if not book.tells_of("come", come):
        told.append(("come", come))
    if not book.tells_of("go", go):
        told.append(("go", go))
    if go - come < book.tells_of("least", come):
        told.append(("least", come))
    if go - come > book.tells_of("most", come):
        told.append(("most", come))
    return told


def can_be_had(book, stay):
    return bars(book, stay) == []


def cost(book, stay):
    found = bars(book, stay)
    if found:
        raise Barred(found)
    return bill(book, stay)[0]


def cost_or_none(book, stay):
    return bill(book, stay)[0] if can_be_had(book, stay) else None
