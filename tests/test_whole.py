"""The whole: the interface, and what points 2 and 3 promise over all of the program, at small books and inns."""

import importlib
import inspect
import itertools
import unittest

from scattered import SHORT, WORDS, BestTold, all_cuts, books_of, due_parts, due_worth, numbers, scattered_rows, scattered_rules
from stayprice import errors
from stayprice.bars import bars, can_be_had, cost
from stayprice.books import Book, laid
from stayprice.cuts import best
from stayprice.desk import Desk
from stayprice.errors import Had, Off, StayError
from stayprice.inn import Inn
from stayprice.looker import is_cut, lets_by
from stayprice.prices import bill
from stayprice.reasons import holds_off, why
from stayprice.tidying import tidied, unlike
from stayprice.twos import apart

INTERFACE = {
    "days": "is_day(thing) is_stretch(thing) is_stay(thing) nights_of(stay) has_day(stretches,day) spread(stretches) "
            "less(stretches,others)",
    "rules": "rule_of(thing) usual(word)",
    "books": "laid(elder,newer) shown(book)",
    "texts": "rule_text(rule) rule_by(text) show_book(book) read_book(thing)",
    "prices": "marked(prices,deal) bill(book,stay)",
    "bars": "bars(book,stay) can_be_had(book,stay) cost(book,stay)",
    "cuts": "best(books,stay) cheapest(books,many,first,last)",
    "looker": "is_cut(books,stay,thing) lets_by(books,stay,thing)",
    "reasons": "hindrances(books,stay) holds_off(books,stay,some) why(books,stay)",
    "twos": "apart(one,other)",
    "tidying": "unlike(one,other) tidied(book)",
    "dealing": "dealt(stays)",
}
CLASSES = {
    "rules.Rule": "word() told() tells(day)",
    "books.Book": "rules() tells_of(word,day)",
    "inn.Inn": "best(stay) take(stay) give_back(number) lay(name,rules) tidy(name) undo() standing() full() rooms() "
               "rules_of(name)",
    "desk.Desk": "say(row)",
}
MADE = {
    "rules.Rule": "first,last,worth", "rules.Price": "first,last,worth", "rules.Fee": "first,last,worth",
    "books.Book": "rules=None", "inn.Inn": "rooms,books", "desk.Desk": "rooms,names",
}
# A rule for each word that bars nothing, over all the days of small books.
LIFTED = {"price": 5, "come": True, "go": True, "least": 1, "most": 14}


def found(path):
    module, name = path.split(".")
    return getattr(importlib.import_module(f"stayprice.{module}"), name)


def takes(thing):
    return ",".join(str(one) for one in inspect.signature(thing).parameters.values() if one.name != "self")


class Interface(unittest.TestCase):
    def test_functions(self):
        for module, rows in INTERFACE.items():
            for row in rows.split(" "):
                name, given = row.rstrip(")").split("(")
                thing = found(f"{module}.{name}")
                self.assertTrue(inspect.isfunction(thing), row)
                self.assertEqual(takes(thing), given, row)

    def test_methods(self):
        for path, rows in CLASSES.items():
            for row in rows.split(" "):
                name, given = row.rstrip(")").split("(")
                self.assertEqual(takes(getattr(found(path), name)), given, row)

    def test_classes(self):
        for path, given in MADE.items():
            self.assertEqual(takes(found(path)), given, path)

    def test_refusals(self):
        names = "NoRule NoText NotSold Barred Off TooMany Had NoName NoTaken NoDeed NoRow NoStay".split(" ")
        for name in names:
            self.assertEqual(getattr(errors, name).__bases__, (StayError,))
        self.assertEqual(StayError.__bases__, (ValueError,))


class Prices(BestTold):
    def test_the_plain_price_is_what_the_nights_cost_that_are_not_free_and_the_fee(self):
        for seed in range(60):
            rules = [("price", 0, 20, 50)] + scattered_rules(seed, 9, 12, 0, ("price", "deal", "fee"), SHORT)
            for stay in ((0, 3), (1, 8), (2, 12)):
                if all(due_worth(rules, "price", night) is not None for night in range(*stay)):
                    total, rows, fee = bill(Book(rules), stay)
                    self.assertEqual(total, fee + sum(coins for night, coins, free in rows if not free))
                    self.assertEqual([row[0] for row in rows], list(range(*stay)))

    def test_each_bar_bars_it_alone(self):
        seen = []
        for seed in range(120):
            rules = scattered_rows(seed, 1, 9)[0]
            stay = (seed % 4, seed % 4 + 1 + seed % 5)
            told = bars(Book(rules), stay)
            for word, day in told:
                # All others are lifted: each other word over all days, and the other nights.
                newer = [(other, 0, 30, LIFTED[other]) for other in LIFTED if other != word]
                if word == "price":
                    newer += [("price", 0, day - 1, 5)] * (day > 0) + [("price", day + 1, 30, 5)]
                book = laid(Book(rules), Book(newer))
                self.assertEqual(bars(book, stay), [(word, day)])
                self.assertIs(can_be_had(book, stay), False)
                seen.append(word)
        self.assertEqual(set(seen), set(LIFTED))

    def test_a_book_laid_over_changes_just_what_its_rules_tell(self):
        for seed in range(80):
            elder, newer = scattered_rows(seed, 2, 9)
            book = laid(Book(elder), Book(newer))
            for word, day in itertools.product(WORDS, range(11)):
                own = [rule for rule in newer if rule[0] == word and rule[1] <= day <= rule[2]]
                self.same(book.tells_of(word, day), due_worth(newer if own else elder, word, day))


class EitherOr(BestTold):
    def test_a_cut_or_days_and_never_both(self):
        had = off = 0
        for seed in range(100):
            rows = scattered_rows(seed, 1 + seed % 4, 9)
            stay = (seed % 3, seed % 3 + 1 + seed % 5)
            books = books_of(rows)
            told = best(books, stay)
            self.assertIs(lets_by(books, stay, told), True)
            if told[0] == "had":
                had += 1
                between = range(stay[0], stay[1] + 1)
                for many in range(len(between) + 1):
                    for days in itertools.combinations(between, many):
                        self.assertIs(lets_by(books, stay, ("off", list(days))), False)
                with self.assertRaises(Had):
                    why(books, stay)
            else:
                off += 1
                self.assertEqual(list(all_cuts(due_parts(rows, stay), stay[0], stay[1])), [])
                some = why(books, stay)
                self.assertIs(holds_off(books, stay, some), True)
                for thing in some:
                    self.assertIs(holds_off(books, stay, [other for other in some if other != thing]), False)
        self.assertGreater(had, 20)
        self.assertGreater(off, 20)

    def test_no_cut_costs_less_than_a_paper_that_is_let_by(self):
        for seed in range(60):
            rows = scattered_rows(seed, 1 + seed % 3, 9)
            stay = (seed % 3, seed % 3 + 3)
            books = books_of(rows)
            told = best(books, stay)
            if told[0] == "had":
                for cut in all_cuts(due_parts(rows, stay), stay[0], stay[1]):
                    self.assertIs(is_cut(books, stay, cut), True)
                    coins = sum(cost(books[part[2]], part[:2]) for part in cut)
                    self.assertGreaterEqual(coins, told[1])
                    self.assertIs(lets_by(books, stay, ("had", coins, cut, told[3])), coins == told[1])


class Alike(BestTold):
    def test_books_that_tell_the_same_are_alike_for_every_stay_and_for_every_best(self):
        for seed in range(60):
            rules = scattered_rows(seed, 1, 9)[0]
            book = Book(rules)
            tidy = tidied(book)
            self.assertIsNone(unlike(book, tidy))
            self.assertIsNone(apart(book, tidy))
            for stay in ((0, 3), (2, 8)):
                self.same(bars(tidy, stay), bars(book, stay))
                self.same(best([tidy], stay), best([book], stay))

    def test_two_books_that_are_not_alike_are_told_apart_by_that_stay(self):
        for seed in range(60):
            one, other = books_of(scattered_rows(seed, 2, 9))
            told = apart(one, other)
            if told is not None:
                costs = [cost(book, told[0]) if can_be_had(book, told[0]) else None for book in (one, other)]
                self.same(list(told[1:]), costs)
                self.assertNotEqual(costs[0], costs[1])
                self.assertIsNotNone(unlike(one, other))


class InTheInn(BestTold):
    def inn(self, seed, rooms, books):
        rows = [[("price", 0, 20, 50)] + rules for rules in scattered_rows(seed, books, 12)]
        return Inn(rooms, list(zip(("a", "b", "c", "d"), rows)))

    def coins(self, inn, stay):
        told = inn.best(stay)
        return told[1] if told[0] == "had" else None

    def no_greater(self, least, most):
        if most is not None:
            self.assertIsNotNone(least)
            self.assertLessEqual(least, most)

    def tried(self, inn, row):
        """A stay that is perhaps taken, then perhaps one that is given back."""
        come = next(row) % 10
        try:
            inn.take((come, come + 1 + next(row) % 4))
        except Off:
            pass
        if inn.standing() and next(row) % 4 == 0:
            inn.give_back(inn.standing()[next(row) % len(inn.standing())][0])

    def test_no_night_has_more_stays_than_there_are_rooms(self):
        for seed in range(50):
            row = numbers(seed)
            rooms = 1 + seed % 4
            inn = self.inn(seed, rooms, 1 + seed % 3)
            for step in range(20):
                self.tried(inn, row)
                nights = [night for entry in inn.standing() for night in range(*entry[1])]
                for night in set(nights):
                    self.assertLessEqual(nights.count(night), rooms)
                    self.assertEqual(nights.count(night) == rooms, night in inn.full())

    def test_each_stay_has_one_room_through_all_its_nights(self):
        for seed in range(50):
            row = numbers(seed)
            inn = self.inn(seed, 1 + seed % 4, 1 + seed % 3)
            for step in range(20):
                self.tried(inn, row)
            rooms = dict(inn.rooms())
            self.assertEqual(sorted(rooms), [entry[0] for entry in inn.standing()])
            beds = [(rooms[entry[0]], night) for entry in inn.standing() for night in range(*entry[1])]
            self.assertEqual(len(beds), len(set(beds)))

    def test_what_was_taken_stands_as_it_was_told(self):
        for seed in range(50):
            row = numbers(seed)
            inn = self.inn(seed, 2, 2)
            told = {}
            for step in range(12):
                come = next(row) % 10
                stay = (come, come + 1 + next(row) % 4)
                found_best = inn.best(stay)
                if found_best[0] == "had":
                    told[inn.take(stay)] = (stay, found_best[1], found_best[2])
                if len(inn.rules_of("a")) < 24:
                    inn.lay("a", scattered_rules(seed + step, 1, 12, 0, WORDS, SHORT))
                inn.tidy("b")
                self.same({entry[0]: entry[1:] for entry in inn.standing()}, told)

    def test_a_book_more_a_lesser_price_a_bar_less(self):
        for seed in range(50):
            rows = [[("price", 0, 20, 50)] + rules for rules in scattered_rows(seed, 3, 12)]
            stay = (seed % 4, seed % 4 + 1 + seed % 6)
            names = ("a", "b", "c")
            for many in (1, 2):
                fewer = Inn(1, list(zip(names[:many], rows)))
                more = Inn(1, list(zip(names[:many + 1], rows)))
                self.no_greater(self.coins(more, stay), self.coins(fewer, stay))
            inn = Inn(1, list(zip(names, rows)))
            before = self.coins(inn, stay)
            for rule in (("price", 3, 3, 0), ("come", 0, 20, True), ("go", 0, 20, True), ("least", 0, 20, 1), ("most", 0, 20, 14)):
                for name in names:
                    inn.lay(name, [rule])
                    self.no_greater(self.coins(inn, stay), before)
                    inn.undo()
            self.same(self.coins(inn, stay), before)

    def test_two_stays_that_make_it_up_beside_full_nights(self):
        for seed in range(50):
            inn = self.inn(seed, 1 + seed % 2, 2)
            row = numbers(seed)
            for step in range(4):
                self.tried(inn, row)
            for come, middle, go in itertools.combinations(range(seed % 3, 8), 3):
                one = self.coins(inn, (come, middle))
                other = self.coins(inn, (middle, go))
                both = None if one is None or other is None else one + other
                self.no_greater(self.coins(inn, (come, go)), both)

    def test_a_stay_given_back_makes_no_best_greater(self):
        for seed in range(50):
            inn = self.inn(seed, 1, 2)
            row = numbers(seed)
            for step in range(4):
                self.tried(inn, row)
            stay = (seed % 4, seed % 4 + 1 + seed % 6)
            for entry in inn.standing():
                before = self.coins(inn, stay)
                inn.give_back(entry[0])
                self.no_greater(self.coins(inn, stay), before)

    def test_the_same_is_told_each_time(self):
        for seed in range(10):
            desks = [Desk(1 + seed % 3, ["main", "late"]) for step in range(2)]
            answers = []
            for desk in desks:
                row = numbers(seed)
                told = []
                for rule in scattered_rules(seed, 6, 9, 0, ("come", "go", "least", "most"), SHORT):
                    name = ("main", "late")[next(row) % 2]
                    day = next(row) % 6
                    for said in (
                        f"lay {name} price 0 20 5", f"lay {name} {rule[0]} {rule[1]} {rule[2]} {day % 2 + 1}",
                        f"best {day} {day + 4}", f"why {day} {day + 4}", f"take {day} {day + 2}", f"tidy {name}",
                        f"show {name}", "standing", "full", "rooms", "apart main late",
                    ):
                        try:
                            told.append(desk.say(said))
                        except StayError as refusal:
                            told.append(type(refusal).__name__)
                answers.append(told)
            self.assertEqual(answers[0], answers[1])


if __name__ == "__main__":
    unittest.main()
