"""Hindrances, what holds a stay off, and why: points 19, 20 and 21, and 2 and 3 for these."""

import itertools
import unittest

from scattered import (
    HUGE, LAST, SHORT, WORDS, Told, books_of, due_least, due_parts, due_worth, numbers, scattered_rows, scattered_rules,
)
from stayprice.books import Book
from stayprice.cuts import best
from stayprice.errors import Had, StayError
from stayprice.reasons import hindrances, holds_off, why

SOLD = ("price", 0, LAST, 100)
FIVE = ("price", "come", "go", "least", "most")


def hinders(rules, stay, word, day):
    come, go = stay
    worth = due_worth(rules, word, day)
    if word == "price":
        return come <= day < go and worth is None
    if word == "come":
        return come <= day < go and worth is False
    if word == "go":
        return come < day <= go and worth is False
    if word == "least":
        return come <= day < go and worth > 1
    return word == "most" and come <= day < go and day + worth < go


def due_hindrances(rows, stay):
    every = itertools.product(range(len(rows)), FIVE, range(stay[0] - 2, stay[1] + 3))
    return [(number, word, day) for number, word, day in every if hinders(rows[number], stay, word, day)]


def is_free(rules, number, begin, end, force):
    """Whether none of those in force keeps the book from letting this be had."""
    for other, word, day in force:
        if other == number:
            many = end - begin
            barred = {
                "price": begin <= day < end,
                "come": day == begin,
                "go": day == end,
                "least": day == begin and many < due_worth(rules, "least", day),
                "most": day == begin and many > due_worth(rules, "most", day),
            }
            if barred[word]:
                return False
    return True


def due_held(rows, stay, some):
    """Goes through all lists of stays, one behind another, by the days between them."""
    force = [thing for thing in some if thing in due_hindrances(rows, stay)]
    free = {}
    for begin, end in itertools.combinations(range(stay[0], stay[1] + 1), 2):
        free[(begin, end)] = any(is_free(rules, number, begin, end, force) for number, rules in enumerate(rows))
    between = range(stay[0] + 1, stay[1])
    for many in range(len(between) + 1):
        for days in itertools.combinations(between, many):
            row = (stay[0],) + days + (stay[1],)
            if all(free[pair] for pair in zip(row, row[1:])):
                return False
    return True


class Reasons(Told):
    def listed(self, rows, stay, due):
        books = books_of(rows)
        told = hindrances(books, stay)
        self.assertIs(type(told), list)
        self.same(told, due, (rows, stay))
        self.same([book.rules() for book in books], rows)

    def held(self, rows, stay, some, due):
        books = books_of(rows)
        handed = list(some)
        self.assertIs(holds_off(books, stay, handed), due, (rows, stay, some))
        self.same(handed, list(some))
        self.same([book.rules() for book in books], rows)

    def reasoned(self, rows, stay):
        """What is told as why, held one by one; None where it is refused."""
        books = books_of(rows)
        every = due_hindrances(rows, stay)
        if not due_held(rows, stay, every):
            with self.assertRaises(Had) as taken:
                why(books, stay)
            self.assertIs(type(taken.exception), Had)
            return None
        told = why(books, stay)
        handed = (rows, stay, told)
        self.assertIs(type(told), list, handed)
        self.same(told, [thing for thing in every if thing in told], handed)
        self.assertTrue(due_held(rows, stay, told), handed)
        for thing in told:
            fewer = [other for other in told if other != thing]
            self.assertFalse(due_held(rows, stay, fewer), handed)
            self.held(rows, stay, fewer, False)
        self.held(rows, stay, told, True)
        self.same(why(books, stay), told)
        self.same([book.rules() for book in books], rows)
        return told


class Hindrances(Reasons):
    def test_none(self):
        self.listed([[SOLD]], (3, 6), [])
        self.listed([[SOLD]] * 4, (0, 14), [])
        self.listed([[SOLD, ("deal", 0, 9, (2, 1)), ("fee", 0, 9, 10)]], (LAST - 14, LAST), [])

    def test_price(self):
        self.listed([[]], (3, 6), [(0, "price", 3), (0, "price", 4), (0, "price", 5)])
        self.listed([[SOLD, ("price", 2, 3, None)]], (3, 6), [(0, "price", 3)])
        self.listed([[SOLD, ("price", 5, 9, None)]], (3, 6), [(0, "price", 5)])
        self.listed([[SOLD, ("price", 0, 2, None), ("price", 6, 9, None)]], (3, 6), [])
        self.listed([[SOLD, ("price", 4, 4, 0)]], (3, 6), [])

    def test_come(self):
        self.listed([[SOLD, ("come", 0, 3, False)]], (3, 6), [(0, "come", 3)])
        self.listed([[SOLD, ("come", 5, 9, False)]], (3, 6), [(0, "come", 5)])
        self.listed([[SOLD, ("come", 0, 2, False), ("come", 6, 9, False)]], (3, 6), [])
        self.listed([[SOLD, ("come", 0, 9, False)]], (3, 6), [(0, "come", 3), (0, "come", 4), (0, "come", 5)])

    def test_go(self):
        self.listed([[SOLD, ("go", 0, 4, False)]], (3, 6), [(0, "go", 4)])
        self.listed([[SOLD, ("go", 6, 9, False)]], (3, 6), [(0, "go", 6)])
        self.listed([[SOLD, ("go", 0, 3, False), ("go", 7, 9, False)]], (3, 6), [])
        self.listed([[SOLD, ("go", 0, 9, False)]], (3, 6), [(0, "go", 4), (0, "go", 5), (0, "go", 6)])

    def test_least(self):
        self.listed([[SOLD, ("least", 0, 9, 2)]], (3, 6), [(0, "least", 3), (0, "least", 4), (0, "least", 5)])
        self.listed([[SOLD, ("least", 0, 3, 14)]], (3, 6), [(0, "least", 3)])
        self.listed([[SOLD, ("least", 5, 9, 2)]], (3, 6), [(0, "least", 5)])
        self.listed([[SOLD, ("least", 0, 2, 5), ("least", 6, 9, 5)]], (3, 6), [])
        self.listed([[SOLD, ("least", 0, 9, 1)]], (3, 6), [])

    def test_most(self):
        self.listed([[SOLD, ("most", 0, 9, 1)]], (3, 6), [(0, "most", 3), (0, "most", 4)])
        self.listed([[SOLD, ("most", 0, 9, 2)]], (3, 6), [(0, "most", 3)])
        self.listed([[SOLD, ("most", 0, 9, 3)]], (3, 6), [])
        self.listed([[SOLD, ("most", 5, 5, 1)]], (3, 6), [])
        self.listed([[SOLD, ("most", 4, 4, 1)]], (3, 6), [(0, "most", 4)])
        for many in range(1, 15):
            for most in range(1, 15):
                due = [(0, "most", 3)] if most < many else []
                self.listed([[SOLD, ("most", 3, 3, most)]], (3, 3 + many), due)

    def test_the_order(self):
        every = [
            ("most", 3, 4, 1), ("least", 3, 5, 2), ("go", 4, 6, False), ("come", 3, 5, False), ("price", 3, 5, None),
        ]
        one = [("price", 3), ("price", 4), ("price", 5), ("come", 3), ("come", 4), ("come", 5), ("go", 4), ("go", 5)]
        one = one + [("go", 6), ("least", 3), ("least", 4), ("least", 5), ("most", 3), ("most", 4)]
        for many in (1, 2, 3, 4):
            due = [(number, word, day) for number in range(many) for word, day in one]
            self.listed([every] * many, (3, 6), due)
            self.listed([list(reversed(every))] * many, (3, 6), due)
            self.assertEqual(due, sorted(due, key=lambda thing: (thing[0], WORDS.index(thing[1]), thing[2])))

    def test_by_several_books(self):
        rows = [[SOLD, ("go", 5, 5, False)], [SOLD], [("price", 3, 4, 1)], [SOLD, ("come", 3, 3, False)]]
        self.listed(rows, (3, 6), [(0, "go", 5), (2, "price", 5), (3, "come", 3)])

    def test_at_day_nought_and_at_the_last_days(self):
        self.listed([[("go", 0, 0, False)]], (0, 1), [(0, "price", 0)])
        self.listed([[SOLD, ("come", 0, 0, False), ("go", 1, 1, False)]], (0, 1), [(0, "come", 0), (0, "go", 1)])
        rules = [SOLD, ("price", LAST - 1, LAST, None), ("go", LAST, LAST, False), ("come", LAST, LAST, False)]
        self.listed([rules], (LAST - 2, LAST), [(0, "price", LAST - 1), (0, "go", LAST)])

    def test_one_night(self):
        rules = [("least", 3, 3, 2), ("most", 3, 3, 1), ("come", 3, 3, False), ("go", 3, 4, False)]
        self.listed([rules], (3, 4), [(0, "price", 3), (0, "come", 3), (0, "go", 4), (0, "least", 3)])

    def test_scattered_books(self):
        for seed in range(150):
            begin = (0, LAST - 15)[seed % 2]
            rows = scattered_rows(seed, 1 + seed % 4, 16, begin)
            stay = (begin + seed % 2, begin + 2 + seed % 14)
            self.listed(rows, stay, due_hindrances(rows, stay))

    def test_books_of_more_rules(self):
        for seed in range(40):
            rows = [scattered_rules(seed + number, 24, 17, 0, worths=SHORT) for number in range(4)]
            self.listed(rows, (1, 15), due_hindrances(rows, (1, 15)))


class HoldsOff(Reasons):
    def test_each_word_by_itself(self):
        self.held([[]], (3, 4), [(0, "price", 3)], True)
        self.held([[SOLD, ("come", 3, 3, False)]], (3, 5), [(0, "come", 3)], True)
        self.held([[SOLD, ("go", 5, 5, False)]], (3, 5), [(0, "go", 5)], True)
        self.held([[SOLD, ("least", 3, 3, 3)]], (3, 5), [(0, "least", 3)], True)
        self.held([[SOLD, ("least", 3, 3, 2)]], (3, 5), [(0, "least", 3)], False)
        self.held([[SOLD, ("most", 3, 3, 1)]], (3, 5), [(0, "most", 3)], False)
        rules = [SOLD, ("most", 3, 3, 1), ("go", 4, 4, False)]
        self.held([rules], (3, 5), [(0, "most", 3), (0, "go", 4)], True)
        rules = [SOLD, ("most", 3, 3, 1), ("come", 4, 4, False)]
        self.held([rules], (3, 5), [(0, "most", 3), (0, "come", 4)], True)
        self.held([rules], (3, 5), [(0, "most", 3)], False)
        self.held([rules], (3, 5), [(0, "come", 4)], False)

    def test_at_both_ends_and_between(self):
        self.held([[]], (3, 6), [(0, "price", 3)], True)
        self.held([[]], (3, 6), [(0, "price", 4)], True)
        self.held([[]], (3, 6), [(0, "price", 5)], True)
        rules = [SOLD, ("come", 3, 5, False), ("go", 4, 6, False)]
        for word, day, due in (("come", 3, True), ("come", 4, False), ("come", 5, False)):
            self.held([rules], (3, 6), [(0, word, day)], due)
        for word, day, due in (("go", 4, False), ("go", 5, False), ("go", 6, True)):
            self.held([rules], (3, 6), [(0, word, day)], due)

    def test_a_cut_by_what_is_lifted(self):
        rules = [SOLD, ("most", 3, 6, 1), ("go", 4, 5, False), ("come", 4, 5, False)]
        every = due_hindrances([rules], (3, 6))
        self.same(every, [
            (0, "come", 4), (0, "come", 5), (0, "go", 4), (0, "go", 5), (0, "most", 3), (0, "most", 4),
        ])
        self.held([rules], (3, 6), every, True)
        # Without the most of day 3 one stays to the end; without any other one there is another bar.
        self.held([rules], (3, 6), [thing for thing in every if thing != (0, "most", 3)], False)
        for thing in every:
            if thing != (0, "most", 3):
                self.held([rules], (3, 6), [other for other in every if other != thing], True)
        self.held([rules], (3, 6), [(0, "come", 4), (0, "most", 3)], True)
        self.held([rules], (3, 6), [(0, "come", 5), (0, "most", 3)], False)

    def test_least_and_most_that_are_lifted(self):
        rules = [SOLD, ("least", 3, 3, 4), ("most", 3, 3, 2)]
        self.held([rules], (3, 6), [], False)
        self.held([rules], (3, 6), [(0, "most", 3)], False)
        self.held([rules], (3, 6), [(0, "least", 3)], True)
        self.held([rules], (3, 6), [(0, "least", 3), (0, "most", 3)], True)
        rules = [SOLD, ("least", 3, 3, 3), ("most", 3, 3, 2)]
        self.held([rules], (3, 6), [(0, "least", 3)], False)
        self.held([rules], (3, 6), [(0, "least", 3), (0, "most", 3)], True)

    def test_none_in_force(self):
        for rows in ([[]], [[], []], [[("come", 0, 9, False), ("go", 0, 9, False), ("least", 0, 9, 14)]]):
            for many in range(1, 9):
                self.held(rows, (1, 1 + many), [], False)

    def test_all_in_force_is_as_it_is(self):
        for seed in range(120):
            rows = scattered_rows(seed, 1 + seed % 4, 9)
            stay = (seed % 3, seed % 3 + 1 + seed % 6)
            had = best(books_of(rows), stay)[0] == "had"
            self.held(rows, stay, due_hindrances(rows, stay), not had)
            self.assertEqual(due_least(due_parts(rows, stay), stay) is not None, had)

    def test_another_order_and_twice(self):
        rules = [SOLD, ("most", 3, 3, 1), ("go", 4, 4, False), ("come", 5, 5, False)]
        some = [(0, "most", 3), (0, "go", 4), (0, "come", 5)]
        for order in itertools.permutations(some):
            self.held([rules], (3, 6), list(order), True)
            self.held([rules], (3, 6), list(order) + [order[0]], True)
        for one, other in itertools.permutations(some, 2):
            due = set((one, other)) == set(some[:2])
            self.held([rules], (3, 6), [one, other], due)
            self.held([rules], (3, 6), [one, other, one], due)

    def test_tuples_that_are_no_hindrances(self):
        rules = [SOLD, ("come", 2, 7, False), ("go", 2, 7, False), ("least", 2, 7, 2), ("most", 2, 7, 2)]
        beside = [
            (0, "price", 3), (0, "price", 4), (0, "price", 5), (0, "come", 2), (0, "come", 6), (0, "go", 3), (0, "go", 7),
            (0, "least", 2), (0, "least", 6), (0, "most", 2), (0, "most", 4), (0, "most", 5), (0, "most", 6),
            (1, "come", 3), (1, "price", 3), (4, "go", 6), (-1, "come", 3), (-1, "price", 3), (0, "come", -1),
            (0, "deal", 3), (0, "fee", 3), (0, "", 3), (0, "word", 3), (0, "COME", 3), (HUGE, "come", 3),
            (0, "come", HUGE), (-HUGE, "go", -HUGE), (0, "price", LAST),
        ]
        for thing in beside:
            self.held([rules], (3, 6), [thing], False)
            self.held([rules], (3, 6), [thing, (0, "come", 3)], True)
            self.held([rules], (3, 6), [(0, "go", 6), thing], True)
        self.held([rules], (3, 6), beside, False)
        self.held([rules], (3, 6), beside + [(0, "come", 3)] + beside, True)

    def test_numbers_below_nought_stand_for_no_book(self):
        self.held([[SOLD], []], (3, 4), [(-1, "price", 3), (-2, "price", 3)], False)
        self.held([[], []], (3, 4), [(0, "price", 3), (-1, "price", 3)], False)
        self.held([[], []], (3, 4), [(0, "price", 3), (1, "price", 3)], True)

    def test_by_several_books(self):
        one = [SOLD, ("come", 3, 3, False)]
        other = [("price", 4, 20, 1)]
        self.held([one], (3, 5), [(0, "come", 3)], True)
        self.held([one, other], (3, 5), [(0, "come", 3)], False)
        self.held([one, other], (3, 5), [(1, "price", 3)], False)
        self.held([one, other], (3, 5), [(0, "come", 3), (1, "price", 3)], True)
        self.held([one, other, []], (3, 5), [(0, "come", 3), (1, "price", 3)], False)
        self.held([one, other, []], (3, 5), [(0, "come", 3), (1, "price", 3), (2, "price", 3)], True)

    def test_all_but_one(self):
        for seed in range(60):
            rows = scattered_rows(seed, 1 + seed % 3, 7)
            stay = (seed % 2, seed % 2 + 1 + seed % 5)
            every = due_hindrances(rows, stay)
            for thing in every:
                some = [other for other in every if other != thing]
                self.held(rows, stay, some, due_held(rows, stay, some))

    def test_some(self):
        row = numbers(9)
        told = []
        for seed in range(200):
            begin = (0, LAST - 9)[seed % 2]
            rows = scattered_rows(seed, 1 + seed % 4, 10, begin)
            stay = (begin + seed % 3, begin + seed % 3 + 1 + seed % 6)
            every = due_hindrances(rows, stay)
            for step in range(3):
                some = [thing for thing in every if next(row) % 4]
                due = due_held(rows, stay, some)
                told.append(due)
                self.held(rows, stay, some, due)
                self.held(rows, stay, list(reversed(some)) + some[:2] + [(5, "price", 3)], due)
        self.assertGreater(told.count(True), 100)
        self.assertGreater(told.count(False), 100)

    def test_fewer_hold_off_no_more(self):
        row = numbers(11)
        for seed in range(80):
            rows = scattered_rows(seed, 1 + seed % 2, 9)
            stay = (seed % 3, seed % 3 + 1 + seed % 6)
            books = books_of(rows)
            some = hindrances(books, stay)
            before = holds_off(books, stay, some)
            while some:
                some = some[:]
                del some[next(row) % len(some)]
                now = holds_off(books, stay, some)
                self.assertFalse(now and not before)
                before = now

    def test_up_to_fourteen_nights(self):
        self.held([[]], (0, 14), [(0, "price", 13)], True)
        self.held([[]], (0, 14), [(0, "come", 13)], False)
        rules = [SOLD, ("least", 0, 20, 3)]
        every = due_hindrances([rules], (0, 14))
        self.held([rules], (0, 14), every, False)
        rules = [SOLD, ("least", 0, 20, 4), ("most", 0, 20, 4)]
        every = due_hindrances([rules], (0, 14))
        self.held([rules], (0, 14), every, True)
        self.held([rules], (0, 14), [thing for thing in every if thing != (0, "least", 12)], False)
        self.held([rules], (0, 14), [thing for thing in every if thing != (0, "least", 13)], True)


class Why(Reasons):
    def test_refused_where_there_is_a_cut(self):
        self.assertIsNone(self.reasoned([[SOLD]], (3, 6)))
        self.assertIsNone(self.reasoned([[SOLD, ("most", 0, 9, 1)]], (3, 6)))
        self.assertIsNone(self.reasoned([[], [SOLD]], (3, 6)))
        self.assertIsNone(self.reasoned([[("price", 3, 3, 0)], [("price", 4, 5, 0)]], (3, 6)))
        self.assertTrue(issubclass(Had, StayError))

    def test_one_hindrance_alone(self):
        for rule, due in (
            (("price", 4, 4, None), (0, "price", 4)), (("come", 3, 3, False), (0, "come", 3)),
            (("go", 6, 6, False), (0, "go", 6)), (("least", 3, 3, 4), (0, "least", 3)),
        ):
            self.same(self.reasoned([[SOLD, rule]], (3, 6)), [due])

    def test_two_together(self):
        self.same(self.reasoned([[SOLD, ("most", 3, 3, 1), ("come", 4, 4, False)]], (3, 5)), [
            (0, "come", 4), (0, "most", 3),
        ])
        self.same(self.reasoned([[SOLD, ("most", 3, 3, 1), ("go", 4, 4, False)]], (3, 5)), [
            (0, "go", 4), (0, "most", 3),
        ])

    def test_of_each_book_one(self):
        for many in (1, 2, 3, 4):
            rows = [[SOLD, ("come", 3, 3, False)] for number in range(many)]
            self.same(self.reasoned(rows, (3, 6)), [(number, "come", 3) for number in range(many)])

    def test_any_of_several(self):
        for many in range(1, 7):
            told = self.reasoned([[]], (3, 3 + many))
            self.assertEqual(len(told), 1)
            self.assertEqual(len(self.reasoned([[], []], (3, 3 + many))), 2)
            self.assertEqual(len(self.reasoned([[]] * 4, (3, 3 + many))), 4)

    def test_at_day_nought_and_at_the_last_days(self):
        self.same(self.reasoned([[SOLD, ("come", 0, 0, False)]], (0, 3)), [(0, "come", 0)])
        self.same(self.reasoned([[SOLD, ("go", LAST, LAST, False)]], (LAST - 3, LAST)), [(0, "go", LAST)])
        self.same(self.reasoned([[]], (LAST - 1, LAST)), [(0, "price", LAST - 1)])

    def test_what_a_night_costs_plays_no_part(self):
        one = [("price", 0, 9, 0), ("come", 3, 3, False)]
        other = [("price", 0, 9, 10 ** 12), ("fee", 0, 9, 7), ("deal", 0, 9, (2, 1)), ("come", 3, 3, False)]
        self.same(self.reasoned([one], (3, 5)), self.reasoned([other], (3, 5)))

    def test_scattered_books(self):
        told = []
        for seed in range(250):
            begin = (0, LAST - 9)[seed % 2]
            rows = scattered_rows(seed, 1 + seed % 4, 10, begin)
            told.append(self.reasoned(rows, (begin + seed % 3, begin + seed % 3 + 1 + seed % 6)))
        self.assertGreater(told.count(None), 50)
        self.assertLess(told.count(None), 200)

    def test_scattered_bars_that_hold_off_together(self):
        lengths = []
        for seed in range(300):
            many = 1 + seed % 3
            rows = [
                [SOLD, ("most", 0, 9, 1 + seed % 2)] + scattered_rules(seed * many + number, 5, 8, 0, FIVE[1:], SHORT)
                for number in range(many)
            ]
            told = self.reasoned(rows, (seed % 2, 5 + seed % 3))
            lengths.append(0 if told is None else len(told))
        for least in (1, 2, 3, 4, 5):
            self.assertGreater(len([length for length in lengths if length >= least]), 10)

    def test_long_stays_by_one_book(self):
        for many in range(7, 12):
            rules = [SOLD, ("least", 0, 20, 4), ("most", 0, 20, 4), ("come", 5, 5, False)]
            self.reasoned([rules], (0, many))
        rules = [SOLD, ("least", 0, 20, 3), ("most", 0, 20, 3)]
        self.assertIsNone(self.reasoned([rules], (0, 12)))
        every = due_hindrances([rules], (0, 14))
        told = why([Book(rules)], (0, 14))
        self.same(told, [thing for thing in every if thing in told])
        self.held([rules], (0, 14), told, True)
        for thing in told:
            self.held([rules], (0, 14), [other for other in told if other != thing], False)


class Own(Reasons):
    def test_what_is_told_is_the_askers_own(self):
        books = [Book([SOLD, ("come", 3, 5, False)]), Book([])]
        for ask in (hindrances, why):
            due = repr(ask(books, (3, 6)))
            told = ask(books, (3, 6))
            told.append(None)
            told[0] = None
            self.assertEqual(repr(ask(books, (3, 6))), due)
            again = ask(books, (3, 6))
            ask(books, (3, 6)).clear()
            ask(books[1:], (4, 6))
            self.assertEqual(repr(again), due)
        self.assertIs(holds_off(books, (3, 6), why(books, (3, 6))), True)

    def test_somewhat_beyond_the_bounds_nothing_is_refused(self):
        self.assertIs(holds_off([Book([SOLD])], (0, 16), [(0, "most", 0), (0, "most", 1)] * 60), False)
        self.assertEqual(why([Book([])] * 5, (3, 4)), [(number, "price", 3) for number in range(5)])
        self.assertEqual(why([Book([SOLD])], (LAST, LAST + 2)), [(0, "price", LAST + 1)])


if __name__ == "__main__":
    unittest.main()
