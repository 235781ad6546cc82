"""Prices marked by a deal, and the bill of a stay: points 11 and 12, and 2 for these."""

import itertools
import unittest

from scattered import COINS, LAST, WORDS, Told, due_bill, due_marks, scattered_rules
from stayprice.books import Book, laid
from stayprice.errors import NotSold
from stayprice.prices import bill, marked

T = True
F = False
DEALS = [(many, free) for many in range(2, 15) for free in range(1, many)]


class Marked(Told):
    def marks(self, prices, deal, due):
        handed = list(prices)
        told = marked(handed, deal)
        self.assertIs(type(told), list)
        self.same(told, due, (prices, deal))
        self.same(handed, prices)

    def test_no_prices_at_all(self):
        for deal in DEALS + [None]:
            self.marks([], deal, [])

    def test_the_deal_none(self):
        for many in range(33):
            self.marks([5] * many, None, [F] * many)
            self.marks(list(range(many)), None, [F] * many)

    def test_fewer_prices_than_a_bundle(self):
        for many, free in DEALS:
            for few in range(many):
                self.marks([0] * few, (many, free), [F] * few)
                self.marks(list(range(few)), (many, free), [F] * few)

    def test_just_as_many(self):
        self.marks([30, 10, 20], (3, 1), [F, T, F])
        self.marks([30, 10, 20], (3, 2), [F, T, T])
        self.marks([10, 20], (2, 1), [T, F])
        self.marks([20, 10], (2, 1), [F, T])
        for many, free in DEALS:
            self.marks(list(range(many)), (many, free), [T] * free + [F] * (many - free))
            self.marks(list(range(many, 0, -1)), (many, free), [F] * (many - free) + [T] * free)

    def test_one_more(self):
        self.marks([30, 10, 20, 0], (3, 1), [F, T, F, F])
        self.marks([30, 20, 0], (2, 1), [F, T, F])
        for many, free in DEALS:
            self.marks(list(range(many)) + [0], (many, free), [T] * free + [F] * (many - free + 1))

    def test_two_whole_bundles(self):
        self.marks([30, 10, 20, 5, 6, 4], (3, 1), [F, T, F, F, F, T])
        self.marks([1, 2, 30, 40], (2, 1), [T, F, T, F])
        for many, free in DEALS:
            once = [T] * free + [F] * (many - free)
            self.marks(list(range(many)) * 2, (many, free), once + once)
            self.marks(list(range(many)) * 2 + [0], (many, free), once + once + [F])
            self.marks(list(range(2 * many)), (many, free), once + once)

    def test_of_alike_prices_the_later_ones(self):
        self.marks([10, 10, 10], (3, 1), [F, F, T])
        self.marks([10, 10, 10], (3, 2), [F, T, T])
        self.marks([10, 10, 20], (3, 1), [F, T, F])
        self.marks([10, 20, 10], (3, 1), [F, F, T])
        self.marks([20, 10, 10, 20], (4, 3), [F, T, T, T])
        for many, free in DEALS:
            self.marks([7] * many, (many, free), [F] * (many - free) + [T] * free)
            self.marks([7] * 2 * many, (many, free), ([F] * (many - free) + [T] * free) * 2)

    def test_noughts(self):
        self.marks([0, 0, 0], (3, 1), [F, F, T])
        self.marks([5, 0, 0], (3, 1), [F, F, T])
        self.marks([0, 5, 0], (3, 2), [T, F, T])
        self.marks([0, 5, 5], (3, 2), [T, F, T])
        self.marks([0, 1], (2, 1), [T, F])

    def test_the_greatest_coins(self):
        self.marks([COINS, COINS - 1, COINS], (3, 2), [F, T, T])
        self.marks([COINS] * 14, (14, 13), [F] + [T] * 13)

    def test_somewhat_beyond_the_bounds_nothing_is_refused(self):
        self.marks([COINS + 2, COINS + 1, COINS + 3], (3, 1), [F, T, F])
        self.marks([5] * 40, (20, 3), ([F] * 17 + [T] * 3) * 2)
        self.marks([5] * 15, (15, 14), [F] + [T] * 14)
        self.marks([5, 6], (1, 1), [T, T])
        self.marks([5, 6], (2, 2), [T, T])
        self.marks([5, 6], (2, 3), [T, T])
        self.marks([5, 6], (2, 0), [F, F])
        self.marks([5, 6], (0, 0), [F, F])

    def test_every_small_list(self):
        for many in range(7):
            for prices in itertools.product((0, 1, 2), repeat=many):
                for deal in (None, (2, 1), (3, 1), (3, 2), (4, 2), (5, 3), (6, 5)):
                    self.same(marked(list(prices), deal), due_marks(prices, deal), (prices, deal))

    def test_long_lists(self):
        for seed in range(1, 60):
            prices = [(step * step * seed + 3 * step) % (2 + seed % 11) for step in range(seed % 33)]
            for deal in DEALS:
                self.same(marked(prices, deal), due_marks(prices, deal), (prices, deal))

    def test_what_is_told_is_the_askers_own(self):
        prices = [30, 10, 20]
        for deal, due in ((None, [F, F, F]), ((3, 1), [F, T, F]), ((4, 1), [F, F, F])):
            told = marked(prices, deal)
            told.append(None)
            told[0] = None
            self.same(marked(prices, deal), due)
            self.same(prices, [30, 10, 20])


class Bills(Told):
    def billed(self, rules, stay, due):
        book = Book(rules)
        told = bill(book, stay)
        self.same(told, due, (rules, stay))
        self.same(book.rules(), rules)

    def not_sold(self, rules, stay, night):
        book = Book(rules)
        with self.assertRaises(NotSold) as taken:
            bill(book, stay)
        self.assertIs(type(taken.exception), NotSold)
        self.same(taken.exception.night, night, (rules, stay))
        self.same(book.rules(), rules)


class Bill(Bills):
    def test_without_a_deal_and_a_fee(self):
        self.billed([("price", 0, 9, 100)], (3, 4), (100, [(3, 100, F)], 0))
        self.billed([("price", 0, 9, 100)], (3, 5), (200, [(3, 100, F), (4, 100, F)], 0))
        self.billed(
            [("price", 0, 9, 100), ("price", 4, 4, 70)], (3, 6), (270, [(3, 100, F), (4, 70, F), (5, 100, F)], 0),
        )

    def test_with_a_fee(self):
        rules = [("price", 0, 9, 100), ("fee", 3, 3, 35)]
        self.billed(rules, (3, 5), (235, [(3, 100, F), (4, 100, F)], 35))
        self.billed(rules, (2, 4), (200, [(2, 100, F), (3, 100, F)], 0))
        self.billed(rules, (4, 5), (100, [(4, 100, F)], 0))

    def test_with_a_deal(self):
        rules = [("price", 0, 20, 100), ("price", 4, 4, 70), ("deal", 3, 3, (3, 1))]
        self.billed(rules, (3, 5), (170, [(3, 100, F), (4, 70, F)], 0))
        self.billed(rules, (3, 6), (200, [(3, 100, F), (4, 70, T), (5, 100, F)], 0))
        self.billed(rules, (3, 7), (300, [(3, 100, F), (4, 70, T), (5, 100, F), (6, 100, F)], 0))
        self.billed(
            rules, (3, 9),
            (400, [(3, 100, F), (4, 70, T), (5, 100, F), (6, 100, F), (7, 100, F), (8, 100, T)], 0),
        )
        # It is the day of coming that the deal is told of.
        self.billed(rules, (2, 5), (270, [(2, 100, F), (3, 100, F), (4, 70, F)], 0))
        self.billed(rules, (4, 7), (270, [(4, 70, F), (5, 100, F), (6, 100, F)], 0))

    def test_with_a_deal_and_a_fee(self):
        rules = [("price", 0, 20, 100), ("deal", 0, 20, (2, 1)), ("fee", 0, 20, 35)]
        self.billed(rules, (3, 5), (135, [(3, 100, F), (4, 100, T)], 35))
        self.billed(rules, (3, 6), (235, [(3, 100, F), (4, 100, T), (5, 100, F)], 35))
        self.billed(rules, (3, 4), (135, [(3, 100, F)], 35))

    def test_a_newer_deal_that_is_none(self):
        rules = [("price", 0, 20, 100), ("deal", 0, 20, (2, 1)), ("deal", 3, 3, None)]
        self.billed(rules, (3, 5), (200, [(3, 100, F), (4, 100, F)], 0))
        self.billed(rules, (2, 4), (100, [(2, 100, F), (3, 100, T)], 0))

    def test_noughts_and_the_greatest_coins(self):
        self.billed([("price", 0, 9, 0)], (0, 2), (0, [(0, 0, F), (1, 0, F)], 0))
        self.billed(
            [("price", 0, 20, COINS), ("fee", 0, 0, COINS)], (0, 14),
            (15 * COINS, [(night, COINS, F) for night in range(14)], COINS),
        )

    def test_at_the_last_days(self):
        self.billed([("price", 0, LAST, 7)], (LAST - 1, LAST), (7, [(LAST - 1, 7, F)], 0))
        self.billed([("price", LAST - 1, LAST - 1, 7), ("fee", LAST, LAST, 9)], (LAST - 1, LAST), (7, [(LAST - 1, 7, F)], 0))

    def test_the_day_of_going_is_no_night(self):
        self.billed([("price", 3, 4, 100)], (3, 5), (200, [(3, 100, F), (4, 100, F)], 0))
        self.billed([("price", 0, 9, 100), ("price", 5, 5, None)], (3, 5), (200, [(3, 100, F), (4, 100, F)], 0))

    def test_where_one_may_not_come_or_go_or_stay_so_long(self):
        rules = [("price", 0, 20, 100)]
        due = (200, [(3, 100, F), (4, 100, F)], 0)
        self.billed(rules + [("come", 3, 3, False)], (3, 5), due)
        self.billed(rules + [("go", 5, 5, False)], (3, 5), due)
        self.billed(rules + [("least", 3, 3, 3)], (3, 5), due)
        self.billed(rules + [("most", 3, 3, 1)], (3, 5), due)
        every = [("come", 0, 9, False), ("go", 0, 9, False), ("least", 0, 9, 14), ("most", 0, 9, 1)]
        self.billed(rules + every, (3, 5), due)

    def test_somewhat_beyond_the_bounds_nothing_is_refused(self):
        due = (2000, [(night, 100, F) for night in range(20)], 0)
        self.billed([("price", 0, 30, 100)], (0, 20), due)
        self.not_sold([("price", 0, LAST, 100)], (LAST, LAST + 3), LAST + 1)

    def test_scattered_books(self):
        sold = 0
        for seed in range(120):
            words = (WORDS, ("price", "deal", "fee"))[seed % 2]
            rules = [("price", 0, 30, 50 + seed)] * (seed % 3) + scattered_rules(seed, seed % 20, 16, 0, words)
            for come in range(0, 6):
                for many in (1, 2, 3, 4, 7, 10, 14):
                    stay = (come, come + many)
                    due = due_bill(rules, stay)
                    if isinstance(due, int):
                        self.not_sold(rules, stay, due)
                    else:
                        sold += 1
                        self.billed(rules, stay, due)
        self.assertGreater(sold, 500)

    def test_what_is_told_is_the_askers_own(self):
        book = Book([("price", 0, 9, 100)])
        due = (200, [(3, 100, F), (4, 100, F)], 0)
        told = bill(book, (3, 5))
        self.assertIs(type(told[1]), list)
        told[1].clear()
        self.same(bill(book, (3, 5)), due)
        told = bill(book, (3, 5))
        laid(book, Book([("price", 0, 9, 5)]))
        bill(book, (3, 4))[1].append(None)
        self.same(told, due)


class Refused(Bills):
    def test_a_book_without_rules(self):
        for stay in ((0, 1), (3, 6), (LAST - 14, LAST)):
            self.not_sold([], stay, stay[0])

    def test_the_first_night(self):
        self.not_sold([("price", 4, 9, 100)], (3, 6), 3)
        self.not_sold([("price", 0, 9, 100), ("price", 3, 3, None)], (3, 6), 3)

    def test_a_middle_and_the_last_night(self):
        self.not_sold([("price", 0, 9, 100), ("price", 4, 4, None)], (3, 6), 4)
        self.not_sold([("price", 0, 9, 100), ("price", 5, 5, None)], (3, 6), 5)
        self.not_sold([("price", 3, 4, 100)], (3, 6), 5)

    def test_of_several_the_first(self):
        self.not_sold([("price", 0, 9, 100), ("price", 4, 5, None)], (3, 7), 4)
        self.not_sold([("price", 0, 9, 100), ("price", 6, 6, None), ("price", 4, 4, None)], (3, 8), 4)

    def test_a_night_that_a_deal_would_make_free(self):
        self.not_sold([("price", 3, 3, 100), ("deal", 3, 3, (2, 1))], (3, 5), 4)

    def test_a_night_for_nothing_is_sold(self):
        self.billed([("price", 3, 3, 0)], (3, 4), (0, [(3, 0, F)], 0))


if __name__ == "__main__":
    unittest.main()
