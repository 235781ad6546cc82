"""The bars of a stay, whether it can be had, and what it costs: points 13 and 14, and 2 for these."""

import itertools
import unittest

from scattered import LAST, WORDS, Told, due_bars, scattered_rules
from stayprice.bars import bars, can_be_had, cost
from stayprice.books import Book
from stayprice.errors import Barred
from stayprice.prices import bill

SOLD = ("price", 0, LAST, 100)


class Stays(Told):
    def barred(self, rules, stay, due):
        book = Book(rules)
        told = bars(book, stay)
        self.assertIs(type(told), list)
        self.same(told, due, (rules, stay))
        self.assertIs(can_be_had(book, stay), due == [], (rules, stay))
        if due:
            with self.assertRaises(Barred) as taken:
                cost(book, stay)
            self.assertIs(type(taken.exception), Barred)
            self.assertIs(type(taken.exception.bars), list)
            self.same(taken.exception.bars, due, (rules, stay))
        else:
            self.same(cost(book, stay), bill(book, stay)[0], (rules, stay))
        self.same(book.rules(), rules)


class EachBar(Stays):
    def test_none(self):
        self.barred([SOLD], (3, 6), [])
        self.barred([SOLD], (0, 1), [])
        self.barred([SOLD], (0, 14), [])
        self.barred([SOLD], (LAST - 14, LAST), [])

    def test_price(self):
        self.barred([SOLD, ("price", 3, 3, None)], (3, 6), [("price", 3)])
        self.barred([SOLD, ("price", 4, 4, None)], (3, 6), [("price", 4)])
        self.barred([SOLD, ("price", 5, 5, None)], (3, 6), [("price", 5)])
        self.barred([SOLD, ("price", 5, 5, None), ("price", 3, 3, None)], (3, 6), [("price", 3), ("price", 5)])
        self.barred([], (3, 6), [("price", 3), ("price", 4), ("price", 5)])
        self.barred([], (0, 14), [("price", night) for night in range(14)])
        self.barred([], (LAST - 1, LAST), [("price", LAST - 1)])

    def test_price_of_other_nights(self):
        self.barred([SOLD, ("price", 2, 2, None), ("price", 6, 6, None)], (3, 6), [])

    def test_a_night_for_nothing_is_no_bar(self):
        self.barred([("price", 3, 5, 0)], (3, 6), [])

    def test_come(self):
        self.barred([SOLD, ("come", 3, 3, False)], (3, 6), [("come", 3)])
        self.barred([SOLD, ("come", 0, LAST, False)], (3, 6), [("come", 3)])
        self.barred([SOLD, ("come", 0, 2, False), ("come", 4, LAST, False)], (3, 6), [])
        self.barred([SOLD, ("come", 0, LAST, False), ("come", 3, 3, True)], (3, 6), [])

    def test_go(self):
        self.barred([SOLD, ("go", 6, 6, False)], (3, 6), [("go", 6)])
        self.barred([SOLD, ("go", 0, LAST, False)], (3, 6), [("go", 6)])
        self.barred([SOLD, ("go", 0, 5, False), ("go", 7, LAST, False)], (3, 6), [])
        self.barred([SOLD, ("go", LAST, LAST, False)], (LAST - 1, LAST), [("go", LAST)])

    def test_least(self):
        for many in range(1, 15):
            for least in range(1, 15):
                due = [("least", 3)] if many < least else []
                self.barred([SOLD, ("least", 3, 3, least)], (3, 3 + many), due)
                self.barred([SOLD, ("least", 0, 2, least), ("least", 4, LAST, least)], (3, 3 + many), [])

    def test_most(self):
        for many in range(1, 15):
            for most in range(1, 15):
                due = [("most", 3)] if many > most else []
                self.barred([SOLD, ("most", 3, 3, most)], (3, 3 + many), due)
                self.barred([SOLD, ("most", 0, 2, most), ("most", 4, LAST, most)], (3, 3 + many), [])

    def test_somewhat_beyond_the_bounds(self):
        self.barred([SOLD], (3, 18), [("most", 3)])
        self.barred([SOLD], (LAST - 1, LAST + 2), [("price", LAST + 1)])

    def test_deals_and_fees_bar_nothing(self):
        self.barred([SOLD, ("deal", 0, 9, (2, 1)), ("fee", 0, 9, 5)], (3, 6), [])


class Together(Stays):
    def test_all_in_their_order(self):
        rules = [
            ("most", 3, 3, 2), ("least", 3, 3, 4), ("go", 6, 6, False), ("come", 3, 3, False), ("price", 4, 4, 100),
        ]
        due = [("price", 3), ("price", 5), ("come", 3), ("go", 6), ("least", 3), ("most", 3)]
        for order in itertools.permutations(rules):
            self.barred(list(order), (3, 6), due)

    def test_some_of_them(self):
        rules = [
            ("price", 4, 4, None), ("come", 3, 3, False), ("go", 6, 6, False), ("least", 3, 3, 4), ("most", 3, 3, 2),
        ]
        due = [("price", 4), ("come", 3), ("go", 6), ("least", 3), ("most", 3)]
        for many in range(6):
            for places in itertools.combinations(range(5), many):
                self.barred([SOLD] + [rules[place] for place in places], (3, 6), [due[place] for place in places])

    def test_scattered_books(self):
        had = 0
        for seed in range(150):
            for begin in (0, LAST - 15):
                rules = [("price", begin, begin + 15, 100)] * (seed % 2) + scattered_rules(seed, seed % 15, 16, begin)
                for come in range(begin, begin + 6):
                    for many in (1, 2, 3, 7, 10):
                        stay = (come, come + many)
                        due = due_bars(rules, stay)
                        had += due == []
                        self.barred(rules, stay, due)
        self.assertGreater(had, 300)


class Cost(Told):
    def test_as_the_bill_comes_to(self):
        rules = [("price", 0, 20, 100), ("price", 4, 4, 70), ("deal", 0, 20, (3, 1)), ("fee", 3, 3, 35)]
        book = Book(rules)
        self.same(cost(book, (3, 4)), 135)
        self.same(cost(book, (3, 5)), 205)
        self.same(cost(book, (3, 6)), 235)
        self.same(cost(book, (4, 7)), 200)
        self.same(cost(book, (5, 7)), 200)

    def test_nothing_at_all(self):
        self.same(cost(Book([("price", 0, 9, 0)]), (3, 6)), 0)

    def test_refused_though_there_is_a_bill(self):
        for word, day, worth in (("come", 3, False), ("go", 5, False), ("least", 3, 3), ("most", 3, 1)):
            book = Book([SOLD, (word, day, day, worth)])
            self.same(bill(book, (3, 5))[0], 200)
            with self.assertRaises(Barred) as taken:
                cost(book, (3, 5))
            self.same(taken.exception.bars, [(word, day)])


class Own(Told):
    def test_each_told_list_is_the_askers_own(self):
        rules = [("price", 4, 4, 100), ("come", 3, 3, False)]
        due = [("price", 3), ("come", 3)]
        book = Book(rules)
        told = bars(book, (3, 5))
        told.clear()
        self.same(bars(book, (3, 5)), due)
        self.assertIs(can_be_had(book, (3, 5)), False)
        self.same(self.refusal(book).bars, due)

    def refusal(self, book):
        with self.assertRaises(Barred) as taken:
            cost(book, (3, 5))
        return taken.exception

    def test_a_refusals_list_is_the_askers_own(self):
        book = Book([("price", 4, 4, 100), ("come", 3, 3, False)])
        due = [("price", 3), ("come", 3)]
        one = self.refusal(book)
        other = self.refusal(book)
        one.bars.clear()
        self.same(other.bars, due)
        self.same(self.refusal(book).bars, due)
        self.same(bars(book, (3, 5)), due)
        self.same(book.rules(), [("price", 4, 4, 100), ("come", 3, 3, False)])

    def test_a_stay_without_bars_is_told_a_new_list_too(self):
        book = Book([SOLD])
        bars(book, (3, 5)).append(("price", 3))
        self.same(bars(book, (3, 5)), [])
        self.assertIs(can_be_had(book, (3, 5)), True)

    def test_words_stand_in_the_order_of_the_table(self):
        book = Book([("come", 3, 3, False), ("go", 4, 4, False), ("least", 3, 3, 2)])
        told = [bar[0] for bar in bars(book, (3, 4))]
        self.assertEqual(told, sorted(told, key=WORDS.index))


if __name__ == "__main__":
    unittest.main()
