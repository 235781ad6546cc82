"""Books beside full nights: as if by none of them these were sold."""

from stayprice.cuts import best
from stayprice.reasons import why


# No rule is laid over the book for it: it may have as many as a book can have.
class ClosedBook:
    def __init__(self, book, nights):
        self.book = book
        self.nights = list(nights)

    def tells_of(self, word, day):
        if word == "price" and day in self.nights:
            return None
        return self.book.tells_of(word, day)


def closed(books, nights):
    return [ClosedBook(book, nights) for book in books]


def best_without(books, nights, stay):
    return best(closed(books, nights), stay)


def why_without(books, nights, stay):
    return why(closed(books, nights), stay)
