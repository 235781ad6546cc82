"""The inn: stays are taken by its books and given back, rules are laid, deeds are undone."""

from stayprice.books import Book, laid
from stayprice.closed import best_without
from stayprice.days import nights_of
from stayprice.dealing import dealt
from stayprice.errors import NoDeed, NoName, NoTaken, Off
from stayprice.tidying import tidied


# The lists of books and of taken stays are never changed, but others take
# their place: so what is kept of them for undoing stays as it was.
class Inn:
    def __init__(self, rooms, books):
        self.room_count = rooms
        self.names = [pair[0] for pair in books]
        self.books = [Book(pair[1]) for pair in books]
        self.taken = []
        self.following = 0
        self.past = []

    def best(self, stay):
        return best_without(self.books, self.full(), stay)

    def take(self, stay):
        told = self.best(stay)
        if told[0] == "off":
            raise Off(told[1])
        self.remember()
        number = self.following
        self.taken = self.taken + [(number, stay, told[1], tuple(told[2]))]
        self.following = number + 1
        return number

    def give_back(self, number):
        left = [entry for entry in self.taken if entry[0] != number]
        if len(left) == len(self.taken):
            raise NoTaken(f"no stay stands by the number {number}")
        self.remember()
        self.taken = left

    def lay(self, name, rules):
        place = self.place_of(name)
        self.put(place, laid(self.books[place], Book(rules)))

    def tidy(self, name):
        place = self.place_of(name)
        self.put(place, tidied(self.books[place]))

    def undo(self):
        if self.past == []:
            raise NoDeed("there is no deed to be undone")
        before = self.past.pop()
        self.books = before[0]
        self.taken = before[1]
        self.following = before[2]

    def standing(self):
        return [(number, stay, coins, list(cut)) for number, stay, coins, cut in self.taken]

    def full(self):
        stays_on = {}
        for entry in self.taken:
            for night in nights_of(entry[1]):
                stays_on[night] = stays_on.get(night, 0) + 1
        return sorted([night for night in stays_on if stays_on[night] == self.room_count])

    def rooms(self):
        numbers = [entry[0] for entry in self.taken]
        return list(zip(numbers, dealt([entry[1] for entry in self.taken])))

    def rules_of(self, name):
        return self.books[self.place_of(name)].rules()

    def place_of(self, name):
        if name not in self.names:
            raise NoName(f"no book is called {name}")
        return self.names.index(name)

    def put(self, place, book):
        self.remember()
        self.books = self.books[:place] + [book] + self.books[place + 1:]

    def remember(self):
        self.past.append((self.books, self.taken, self.following))
