"""Two books held against one another: point 22, and 2 and 3 for it."""

import unittest

from scattered import COINS, LAST, SHORT, WORDS, Told, alike, books_of, due_cost, scattered_rows, scattered_rules
from stayprice.books import Book
from stayprice.errors import TooMany
from stayprice.twos import apart

SOLD = ("price", 0, LAST, 100)


def due_apart(one, other, days):
    """Goes through all stays that come on one of the days."""
    for many in range(1, 15):
        for come in days:
            stay = (come, come + many)
            if 0 <= come and stay[1] <= LAST and due_cost(one, stay) != due_cost(other, stay):
                return (stay, due_cost(one, stay), due_cost(other, stay))
    return None


class Twos(Told):
    def told(self, one, other, due):
        books = books_of([one, other])
        self.same(apart(books[0], books[1]), due, (one, other))
        turned = None if due is None else (due[0], due[2], due[1])
        self.same(apart(books[1], books[0]), turned, (other, one))
        self.same(apart(books[0], books[1]), due, (one, other))
        self.same([book.rules() for book in books], [one, other])


class Alike(Twos):
    def test_no_rules(self):
        self.told([], [], None)

    def test_the_same_rules(self):
        for seed in range(10):
            rules = scattered_rules(seed, 10, 30)
            self.told(rules, list(rules), None)

    def test_the_very_same_book(self):
        book = Book([SOLD, ("fee", 3, 4, 10)])
        self.assertIsNone(apart(book, book))

    def test_unlike_rules(self):
        self.told([SOLD], [("price", 0, 7, 100), ("price", 8, LAST, 100)], None)
        self.told([("price", 5, 5, 7), SOLD], [SOLD], None)
        self.told([("price", 0, 9, None)], [], None)
        self.told([SOLD, ("come", 0, 9, True), ("go", 4, 4, True), ("least", 1, 9, 1), ("most", 1, 9, 14)], [SOLD], None)
        self.told([SOLD, ("deal", 0, 9, None), ("fee", 0, 9, 0)], [SOLD], None)

    def test_what_no_stay_shows(self):
        # Without a night that is sold nothing else is seen.
        self.told([("come", 3, 3, False), ("fee", 3, 3, 10), ("deal", 3, 3, (2, 1)), ("least", 3, 3, 2)], [], None)
        # Who may not come pays no fee.
        self.told([SOLD, ("come", 3, 3, False), ("fee", 3, 3, 10)], [SOLD, ("come", 3, 3, False)], None)
        # Who stays one night at most has nothing of the deal.
        self.told([SOLD, ("most", 0, LAST, 1), ("deal", 3, 9, (2, 1))], [SOLD, ("most", 0, LAST, 1)], None)
        self.told([SOLD, ("most", 0, LAST, 1), ("go", 0, 0, False)], [SOLD, ("most", 0, LAST, 1)], None)
        # No stay comes on the last day, none goes on day 0, and the last day's night belongs to none.
        self.told([SOLD, ("come", LAST, LAST, False), ("go", 0, 0, False)], [SOLD], None)
        self.told([SOLD, ("price", LAST, LAST, 7), ("fee", LAST, LAST, 7)], [SOLD], None)
        self.told([SOLD, ("least", LAST, LAST, 7), ("most", LAST, LAST, 7), ("deal", LAST, LAST, (2, 1))], [SOLD], None)

    def test_barred_by_unlike_bars(self):
        self.told([("price", 3, 3, 5), ("come", 3, 3, False)], [("price", 3, 3, 5), ("go", 4, 4, False)], None)
        self.told([("price", 3, 3, 5), ("least", 3, 3, 2)], [], None)

    def test_a_deal_of_nights_for_nothing(self):
        free = ("price", 0, LAST, 0)
        self.told([free, ("deal", 0, LAST, (2, 1))], [free], None)
        self.told([free, ("deal", 0, LAST, (14, 13))], [free, ("deal", 3, 9, (3, 2))], None)


class Apart(Twos):
    def test_by_one_night(self):
        self.told([SOLD], [], ((0, 1), 100, None))
        self.told([SOLD, ("price", 7, 7, 90)], [SOLD], ((7, 8), 90, 100))
        self.told([SOLD, ("price", 7, 7, None)], [SOLD], ((7, 8), None, 100))
        self.told([SOLD, ("come", 7, 7, False)], [SOLD], ((7, 8), None, 100))
        self.told([SOLD, ("go", 7, 7, False)], [SOLD], ((6, 7), None, 100))
        self.told([SOLD, ("least", 7, 7, 2)], [SOLD], ((7, 8), None, 100))
        self.told([SOLD, ("fee", 7, 7, 1)], [SOLD], ((7, 8), 101, 100))

    def test_coins_of_nought_and_none(self):
        self.told([("price", 5, 5, 0)], [], ((5, 6), 0, None))
        self.told([("price", 5, 5, COINS)], [("price", 5, 5, 0)], ((5, 6), COINS, 0))

    def test_by_as_many_nights_as_the_most(self):
        for most in range(1, 14):
            due = ((7, 8 + most), None, 100 * (most + 1))
            self.told([SOLD, ("most", 7, 7, most)], [SOLD], due)
            self.told([SOLD, ("most", 0, LAST, most)], [SOLD], ((0, most + 1), None, 100 * (most + 1)))

    def test_by_as_many_nights_as_the_deal(self):
        for many in range(2, 15):
            due = ((7, 7 + many), 100 * (many - 1), 100 * many)
            self.told([SOLD, ("deal", 7, 7, (many, 1))], [SOLD], due)
            due = ((7, 7 + many), 100, 100 * many)
            self.told([SOLD, ("deal", 7, 7, (many, many - 1))], [SOLD], due)

    def test_by_fourteen_nights_alone(self):
        for come in (0, 1, 13, 14, 15, 500, LAST - 15, LAST - 14):
            self.told([SOLD, ("deal", come, come, (14, 3))], [SOLD], ((come, come + 14), 1100, 1400))
            self.told([SOLD, ("most", come, come, 13)], [SOLD], ((come, come + 14), None, 1400))
        for come in (LAST - 13, LAST - 1, LAST):
            self.told([SOLD, ("deal", come, come, (14, 3))], [SOLD], None)
            self.told([SOLD, ("most", come, come, 13)], [SOLD], None)

    def test_by_fourteen_nights_and_the_price_of_one_of_them(self):
        # Only who stays fourteen nights, or thirteen, from a day on may come at all.
        for least in (13, 14):
            rules = [SOLD, ("least", 0, LAST, least)]
            for night in (0, 5, 13, 14, 500, LAST - 14, LAST - 1):
                come = max(0, night - least + 1)
                self.told(rules + [("price", night, night, 90)], rules, ((come, come + least), 100 * least - 10, 100 * least))
            # The night is among the last ones: the first stay that has it ends behind it.
            self.told(rules + [("price", LAST, LAST, 90)], rules, None)

    def test_by_the_day_of_going(self):
        for least in range(1, 15):
            rules = [SOLD, ("least", 0, LAST, least)]
            for day in (least, least + 1, 500, LAST - 1, LAST):
                due = ((day - least, day), None, 100 * least)
                self.told(rules + [("go", day, day, False)], rules, due)
            if least > 1:
                due = ((0, least), None, 100 * least)
                self.told(rules + [("go", least, LAST, False)], rules, due)

    def test_days_of_going_that_no_short_stay_reaches(self):
        rules = [SOLD, ("least", 0, LAST, 3)]
        for day in (0, 1, 2):
            self.told(rules + [("go", day, day, False)], rules, None)

    def test_at_day_nought(self):
        for rule, coins in ((("price", 0, 0, 7), 7), (("fee", 0, 0, 7), 107), (("come", 0, 0, False), None)):
            self.told([SOLD, rule], [SOLD], ((0, 1), coins, 100))
        self.told([SOLD, ("go", 1, 1, False)], [SOLD], ((0, 1), None, 100))
        self.told([SOLD, ("least", 0, 0, 3)], [SOLD], ((0, 1), None, 100))
        self.told([SOLD, ("deal", 0, 0, (3, 1))], [SOLD], ((0, 3), 200, 300))

    def test_at_the_last_days(self):
        day = LAST - 1
        for rule, coins in ((("price", day, LAST, 7), 7), (("fee", day, LAST, 7), 107), (("come", day, LAST, False), None)):
            self.told([SOLD, rule], [SOLD], ((day, LAST), coins, 100))
        self.told([SOLD, ("go", LAST, LAST, False)], [SOLD], ((day, LAST), None, 100))
        self.told([SOLD, ("least", day, LAST, 3)], [SOLD], ((day, LAST), None, 100))
        self.told([SOLD, ("deal", LAST - 3, LAST, (3, 1))], [SOLD], ((LAST - 3, LAST), 200, 300))
        self.told([("price", day, day, 5)], [], ((day, LAST), 5, None))

    def test_the_first_of_alike_short_stays(self):
        self.told([SOLD, ("price", 7, 9, 90)], [SOLD], ((7, 8), 90, 100))
        self.told([SOLD, ("price", 9, 9, 90), ("price", 5, 5, 80)], [SOLD], ((5, 6), 80, 100))
        self.told([SOLD, ("price", 9, 9, 90)], [SOLD, ("price", 5, 5, 80)], ((5, 6), 100, 80))
        self.told([SOLD, ("deal", 9, 9, (3, 1)), ("deal", 400, 400, (3, 2))], [SOLD], ((9, 12), 200, 300))

    def test_the_shorter_one_though_it_comes_later(self):
        self.told([SOLD, ("deal", 2, 2, (2, 1)), ("price", 600000, 600000, 1)], [SOLD], ((600000, 600001), 1, 100))
        self.told([SOLD, ("deal", 2, 2, (14, 1)), ("deal", 500, 500, (13, 1))], [SOLD], ((500, 513), 1200, 1300))

    def test_price_and_deal_together(self):
        # A deal tells two books apart only on stays with the nights that are not alike otherwise.
        one = [("price", 0, 9, 0), ("price", 10, 10, 50), ("deal", 0, 9, (3, 1)), ("deal", 8, 9, None)]
        other = [("price", 0, 9, 0), ("price", 10, 10, 50), ("deal", 0, 9, (3, 2)), ("deal", 8, 9, None)]
        self.told(one, other, None)
        one = [("price", 0, 9, 10), ("price", 10, 10, 50), ("deal", 8, 8, (3, 1))]
        other = [("price", 0, 9, 10), ("price", 10, 10, 50), ("deal", 8, 8, (3, 2))]
        self.told(one, other, ((8, 11), 60, 50))

    def test_a_shift_that_only_the_mixture_of_nights_shows(self):
        # Dearer and cheaper nights make up for one another in all stays but some of three nights.
        one = [("least", 0, LAST, 3), ("most", 0, LAST, 3), SOLD, ("price", 10, 10, 90), ("price", 11, 11, 110)]
        other = [("least", 0, LAST, 3), ("most", 0, LAST, 3), SOLD]
        self.told(one, other, ((8, 11), 290, 300))
        one = one + [("come", 8, 8, False)]
        other = other + [("come", 8, 8, False)]
        self.told(one, other, ((11, 14), 310, 300))

    def test_each_word_scattered(self):
        for word in WORDS:
            for seed in range(8):
                one = [SOLD] + scattered_rules(seed, 3, 20, 30, (word,), SHORT)
                other = [SOLD] + scattered_rules(seed + 100, 3, 20, 30, (word,), SHORT)
                self.told(one, other, due_apart(one, other, range(0, 60)))

    def test_scattered_books(self):
        found = []
        for seed in range(120):
            begin = (0, 40, LAST - 19)[seed % 3]
            one, other = scattered_rows(seed, 2, 20, begin)
            if seed % 2:
                # Two books that differ in a single rule.
                other = one[:-1] + [rule for rule in scattered_rules(seed, 1, 20, begin, worths=SHORT)]
            due = due_apart(one, other, range(max(0, begin - 15), min(LAST, begin + 22)))
            found.append(due)
            self.told(one, other, due)
        self.assertGreater(len([due for due in found if due is None]), 5)
        self.assertGreater(len([due for due in found if due and due[0][1] - due[0][0] > 1]), 5)

    def test_far_apart_rules(self):
        for seed in range(20):
            one = [SOLD] + [rule for part in range(3) for rule in scattered_rules(seed + part, 3, 9, part * 333000, worths=SHORT)]
            other = one[:5] + one[6:]
            days = [day for part in range(3) for day in range(max(0, part * 333000 - 15), part * 333000 + 12)]
            self.told(one, other, due_apart(one, other, days))


class Refused(Told):
    def refused(self, one, other):
        for pair in ((one, other), (other, one)):
            with self.assertRaises(TooMany) as taken:
                apart(pair[0], pair[1])
            self.assertIs(type(taken.exception), TooMany)

    def test_more_than_twelve_rules(self):
        for many in (13, 14, 23, 24):
            self.refused(Book(alike(many)), Book([]))
            self.refused(Book(alike(many)), Book(alike(12)))
            self.refused(Book(alike(many)), Book(alike(many)))

    def test_twelve_rules(self):
        self.assertIsNone(apart(Book(alike(12)), Book(alike(12))))
        self.assertEqual(apart(Book(alike(12)), Book([])), ((0, 1), 100, None))
        self.assertEqual(apart(Book([]), Book(alike(12))), ((0, 1), None, 100))
        self.assertEqual(apart(Book(alike(11)), Book(alike(12))), ((11, 12), 110, 111))

    def test_alike_books_of_twelve_rules(self):
        rules = scattered_rules(3, 11, 30) + [SOLD]
        self.assertIsNone(apart(Book(rules), Book([SOLD] + [rule for rule in rules if rule[0] != "price"])))


if __name__ == "__main__":
    unittest.main()
