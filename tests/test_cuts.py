"""Cuts, the best of a stay and the cheapest stay: points 15, 16 and 17, and 2 and 3 for these."""

import itertools
import unittest

from scattered import (
    COINS, LAST, SHORT, BestTold, Told, all_cuts, alike, books_of, due_least, due_parts, numbers, scattered_rows, scattered_rules,
)
from stayprice.books import Book
from stayprice.cuts import best, cheapest


class Bests(BestTold):
    def held(self, rows, stay):
        """Holds what is told against every part of the stay; tells the coins, or None."""
        books = books_of(rows)
        told = best(books, stay)
        due = self.is_best(told, due_parts(rows, stay), stay, (rows, stay, told))
        self.same(best(books, stay), told)
        self.same([book.rules() for book in books], rows)
        self.assertEqual(len(books), len(rows))
        return due

    def comes_to(self, rows, stay, coins, cut):
        """Where one cut alone costs least, it is told."""
        self.same(self.held(rows, stay), coins, (rows, stay))
        if coins is not None:
            self.same(best(books_of(rows), stay)[2], cut, (rows, stay))


class OneBook(Bests):
    def test_whole(self):
        rules = [("price", 0, 20, 100), ("fee", 0, 20, 1)]
        for many in range(1, 15):
            self.comes_to([rules], (3, 3 + many), 100 * many + 1, [(3, 3 + many, 0)])

    def test_cut_in_two(self):
        rules = [("price", 0, 20, 100), ("most", 0, 20, 3), ("come", 4, 5, False)]
        self.comes_to([rules], (3, 8), 500, [(3, 6, 0), (6, 8, 0)])

    def test_cut_at_each_night(self):
        rules = [("price", 0, 20, 100), ("most", 0, 20, 1), ("fee", 0, 20, 7)]
        for many in range(1, 15):
            cut = [(day, day + 1, 0) for day in range(3, 3 + many)]
            self.comes_to([rules], (3, 3 + many), 107 * many, cut)

    def test_the_fee_is_paid_for_each_part(self):
        rules = [("price", 0, 20, 100), ("most", 0, 20, 2), ("fee", 0, 20, 35)]
        self.comes_to([rules], (3, 5), 235, [(3, 5, 0)])
        self.comes_to([rules], (3, 7), 470, [(3, 5, 0), (5, 7, 0)])
        self.assertEqual(self.held([rules], (3, 8)), 605)

    def test_a_fee_that_is_shunned(self):
        rules = [("price", 0, 20, 100), ("most", 0, 20, 2), ("fee", 0, 20, 35), ("fee", 4, 4, 1000)]
        self.comes_to([rules], (3, 6), 370, [(3, 5, 0), (5, 6, 0)])

    def test_a_deal_that_makes_the_longer_part_cheaper(self):
        rules = [("price", 0, 20, 100), ("deal", 0, 20, (4, 2))]
        self.comes_to([rules], (3, 7), 200, [(3, 7, 0)])

    def test_a_deal_that_makes_two_parts_cheaper(self):
        rules = [("price", 3, 3, 10), ("price", 4, 4, 100), ("price", 5, 5, 90), ("price", 6, 6, 10)]
        rules = rules + [("deal", 4, 4, (2, 1)), ("deal", 3, 3, None), ("deal", 6, 6, None)]
        self.assertEqual(self.held([rules], (3, 7)), 120)
        self.assertEqual(best([Book(rules)], (3, 7))[2][0], (3, 4, 0))

    def test_a_deal_of_the_second_part_only(self):
        rules = [("price", 0, 20, 100), ("fee", 3, 4, 5), ("deal", 4, 4, (3, 2))]
        self.comes_to([rules], (3, 7), 210, [(3, 4, 0), (4, 7, 0)])

    def test_least_forbids_parts(self):
        rules = [("price", 0, 20, 100), ("least", 0, 20, 2), ("most", 0, 20, 3)]
        self.assertIsNone(self.held([rules], (3, 4)))
        self.comes_to([rules], (3, 5), 200, [(3, 5, 0)])
        self.comes_to([rules], (3, 6), 300, [(3, 6, 0)])
        self.comes_to([rules], (3, 7), 400, [(3, 5, 0), (5, 7, 0)])

    def test_most_and_least_alike(self):
        rules = [("price", 0, 20, 100), ("least", 0, 20, 3), ("most", 0, 20, 3)]
        for many in range(1, 15):
            due = 100 * many if many % 3 == 0 else None
            cut = [(day, day + 3, 0) for day in range(3, 3 + many, 3)]
            self.comes_to([rules], (3, 3 + many), due, cut)

    def test_days_on_which_one_may_not_come(self):
        rules = [("price", 0, 20, 100), ("most", 0, 20, 3), ("come", 0, 20, False), ("come", 3, 3, True)]
        self.comes_to([rules], (3, 6), 300, [(3, 6, 0)])
        self.assertIsNone(self.held([rules], (3, 7)))
        self.comes_to([rules + [("come", 5, 5, True)]], (3, 8), 500, [(3, 5, 0), (5, 8, 0)])

    def test_days_on_which_one_may_not_go(self):
        rules = [("price", 0, 20, 100), ("most", 0, 20, 3), ("go", 0, 20, False), ("go", 8, 8, True)]
        self.comes_to([rules], (5, 8), 300, [(5, 8, 0)])
        self.assertIsNone(self.held([rules], (3, 8)))
        self.comes_to([rules + [("go", 6, 6, True)]], (3, 8), 500, [(3, 6, 0), (6, 8, 0)])

    def test_none_at_all(self):
        for rules in ([], [("price", 4, 20, 100)], [("price", 0, 20, 100), ("come", 3, 3, False)]):
            for many in range(1, 15):
                self.assertIsNone(self.held([rules], (3, 3 + many)))
                self.same(best([Book(rules)], (3, 3 + many)), ("off", [3]))

    def test_a_night_in_the_midst_is_not_sold(self):
        rules = [("price", 0, 20, 100), ("price", 5, 5, None)]
        self.assertIsNone(self.held([rules], (3, 8)))
        self.assertEqual(self.held([rules], (3, 5)), 200)
        self.assertEqual(self.held([rules], (6, 8)), 200)

    def test_one_may_not_go_at_the_end(self):
        rules = [("price", 0, 20, 100), ("go", 8, 8, False)]
        self.assertIsNone(self.held([rules], (3, 8)))
        self.assertEqual(self.held([rules], (3, 7)), 400)
        self.assertEqual(self.held([rules], (3, 9)), 600)

    def test_coins_of_nought(self):
        self.same(self.held([[("price", 0, 20, 0)]], (3, 8)), 0)
        self.same(self.held([[("price", 0, 20, 0), ("most", 0, 20, 2)]], (0, 14)), 0)
        self.same(self.held([[("price", 0, 20, 5)], [("price", 0, 20, 0)]], (3, 4)), 0)

    def test_the_greatest_coins(self):
        rules = [("price", 0, 20, COINS), ("fee", 0, 20, COINS)]
        self.comes_to([rules], (0, 14), 15 * COINS, [(0, 14, 0)])
        self.assertEqual(self.held([rules + [("most", 0, 20, 1)]], (0, 14)), 28 * COINS)

    def test_at_day_nought_and_at_the_last_days(self):
        rules = [("price", 0, LAST, 100), ("fee", 0, LAST, 1)]
        for many in range(1, 15):
            self.comes_to([rules], (0, many), 100 * many + 1, [(0, many, 0)])
            self.comes_to([rules], (LAST - many, LAST), 100 * many + 1, [(LAST - many, LAST, 0)])
        short = rules + [("most", 0, LAST, 1)]
        self.comes_to([short], (LAST - 2, LAST), 202, [(LAST - 2, LAST - 1, 0), (LAST - 1, LAST, 0)])
        self.assertIsNone(self.held([rules + [("go", LAST, LAST, False)]], (LAST - 3, LAST)))
        self.assertIsNone(self.held([rules + [("come", 0, 0, False)]], (0, 3)))


class SeveralBooks(Bests):
    def test_whole_by_one_of_them(self):
        for many in (1, 2, 3, 4):
            for number in range(many):
                rows = [[("price", 0, 20, 100), ("fee", 0, 20, 1)] for other in range(many)]
                rows[number] = [("price", 0, 20, 90), ("fee", 0, 20, 1)]
                self.comes_to(rows, (3, 8), 451, [(3, 8, number)])

    def test_in_turn(self):
        one = [("price", 0, 20, 100), ("price", 4, 4, 1), ("price", 6, 6, 1), ("most", 0, 20, 1)]
        other = [("price", 0, 20, 100), ("price", 3, 3, 1), ("price", 5, 5, 1), ("most", 0, 20, 1)]
        self.comes_to([one, other], (3, 7), 4, [(3, 4, 1), (4, 5, 0), (5, 6, 1), (6, 7, 0)])
        self.comes_to([other, one], (3, 7), 4, [(3, 4, 0), (4, 5, 1), (5, 6, 0), (6, 7, 1)])

    def test_each_sells_what_the_others_do_not(self):
        rows = [[("price", day, day, 10 + day)] for day in (3, 4, 5, 6)]
        self.comes_to(rows, (3, 7), 58, [(3, 4, 0), (4, 5, 1), (5, 6, 2), (6, 7, 3)])
        self.assertIsNone(self.held(rows[:3], (3, 7)))
        self.assertIsNone(self.held(rows[1:], (3, 7)))

    def test_the_fee_of_another_book(self):
        one = [("price", 0, 20, 100), ("fee", 0, 20, 30)]
        other = [("price", 5, 20, 80)]
        self.comes_to([one, other], (3, 6), 310, [(3, 5, 0), (5, 6, 1)])
        self.comes_to([one, other + [("fee", 5, 5, 21)]], (3, 6), 330, [(3, 6, 0)])

    def test_one_book_leads_over_what_the_other_bars(self):
        one = [("price", 0, 20, 100), ("come", 5, 6, False), ("most", 0, 20, 2)]
        other = [("price", 5, 5, 500), ("go", 0, 20, True)]
        self.comes_to([one], (3, 6), 300, [(3, 4, 0), (4, 6, 0)])
        self.assertIsNone(self.held([one + [("come", 4, 4, False)]], (3, 7)))
        self.comes_to([one + [("come", 4, 4, False), ("come", 6, 6, True)], other], (3, 8), 900, [
            (3, 5, 0), (5, 6, 1), (6, 8, 0),
        ])

    def test_off_behind_some_parts(self):
        one = [("price", 3, 4, 100), ("most", 0, 20, 1)]
        other = [("price", 7, 9, 100)]
        self.assertIsNone(self.held([one, other], (3, 10)))
        self.assertEqual(self.held([one, other], (3, 5)), 200)
        self.assertEqual(self.held([one, other], (7, 10)), 300)

    def test_what_one_lets_come_and_the_other_lets_go_does_not_help(self):
        one = [("price", 0, 20, 100), ("go", 0, 20, False)]
        other = [("price", 0, 20, 100), ("come", 0, 20, False)]
        for many in (1, 2, 3):
            self.assertIsNone(self.held([one, other], (3, 3 + many)))

    def test_books_alike(self):
        rules = [("price", 0, 20, 100), ("fee", 0, 20, 1)]
        for many in (2, 3, 4):
            self.same(self.held([rules] * many, (3, 6)), 301)

    def test_the_very_same_book_twice(self):
        book = Book([("price", 0, 20, 100)])
        self.assertEqual(best([book, book], (3, 6))[1], 300)

    def test_a_part_that_begins_on_a_day_out_of_reach(self):
        # A part from day 4 for nothing: its nights' numbers may not be above nought.
        one = [("price", 3, 5, 100), ("go", 4, 4, False)]
        other = [("price", 4, 5, 0), ("come", 5, 5, False), ("fee", 5, 5, 7)]
        self.assertEqual(self.held([one, other], (3, 6)), 300)
        paper = best(books_of([one, other]), (3, 6))[3]
        self.assertLessEqual(paper[1] + paper[2], 0)


class Scattered(Bests):
    def test_held_against_all_cuts_one_by_one(self):
        had = off = 0
        for seed in range(80):
            for many in (1, 2, 3, 4):
                rows = scattered_rows(seed, many, 7)
                stay = (seed % 3, seed % 3 + 2 + seed % 4)
                parts = due_parts(rows, stay)
                costs = [sum(parts[part] for part in cut) for cut in all_cuts(parts, stay[0], stay[1])]
                due = min(costs) if costs else None
                self.same(self.held(rows, stay), due, (rows, stay))
                had += due is not None
                off += due is None
        self.assertGreater(had, 50)
        self.assertGreater(off, 50)

    def test_longer_stays(self):
        had = off = 0
        for seed in range(150):
            for many in (1, 2, 3, 4):
                for begin in (0, LAST - 15):
                    rows = scattered_rows(seed * 5 + many, many, 16, begin)
                    due = self.held(rows, (begin + seed % 2, begin + 15 - seed % 9))
                    had += due is not None
                    off += due is None
        self.assertGreater(had, 150)
        self.assertGreater(off, 150)

    def test_books_of_more_rules(self):
        for seed in range(30):
            rows = [[("price", 0, 16, 50)] + scattered_rules(seed + number, 23, 17, 0, worths=SHORT) for number in (0, 1)]
            self.held(rows, (1, 15))


class TheWhole(Bests):
    def coins(self, rows, stay):
        told = best(books_of(rows), stay)
        return told[1] if told[0] == "had" else None

    def no_greater(self, least, most, handed):
        if most is not None:
            self.assertIsNotNone(least, handed)
            self.assertLessEqual(least, most, handed)

    def test_a_book_more(self):
        for seed in range(120):
            rows = scattered_rows(seed, 4, 9)
            for many in (1, 2, 3):
                stay = (seed % 3, seed % 3 + 1 + seed % 6)
                self.no_greater(self.coins(rows[:many + 1], stay), self.coins(rows[:many], stay), rows)

    def test_a_lesser_price(self):
        for seed in range(120):
            rows = scattered_rows(seed, 2, 9)
            day = seed % 9
            less = [rules + [("price", day, day, 0)] for rules in rows]
            stay = (seed % 3, seed % 3 + 1 + seed % 6)
            self.no_greater(self.coins(less, stay), self.coins(rows, stay), rows)

    def test_a_bar_less(self):
        for seed in range(120):
            rows = scattered_rows(seed, 2, 9)
            first = seed % 9
            stay = (seed % 3, seed % 3 + 1 + seed % 6)
            for rule in (("come", first, 9, True), ("go", first, 9, True), ("least", first, 9, 1), ("most", first, 9, 14)):
                self.no_greater(self.coins([rules + [rule] for rules in rows], stay), self.coins(rows, stay), rows)

    def test_two_stays_that_make_it_up(self):
        for seed in range(120):
            rows = scattered_rows(seed, 1 + seed % 3, 9)
            for come, middle, go in itertools.combinations(range(seed % 3, 8), 3):
                one = self.coins(rows, (come, middle))
                other = self.coins(rows, (middle, go))
                both = None if one is None or other is None else one + other
                self.no_greater(self.coins(rows, (come, go)), both, (rows, come, middle, go))


class Own(Bests):
    def test_what_is_told_is_the_askers_own(self):
        books = [Book([("price", 0, 20, 100), ("most", 0, 20, 2)]), Book([("price", 0, 20, 100)])]
        for stay in ((3, 6), (3, 4), (25, 27), (19, 23)):
            due = repr(best(books, stay))
            told = best(books, stay)
            for thing in told:
                if isinstance(thing, list):
                    thing.append(None)
                    thing[0] = None
            self.assertEqual(repr(best(books, stay)), due)
            again = best(books, stay)
            best(books, stay)[1 if again[0] == "off" else 2].clear()
            best([books[1]], (0, 3))
            self.assertEqual(repr(again), due)

    def test_somewhat_beyond_the_bounds_nothing_is_refused(self):
        rules = [("price", 0, LAST, 100)]
        self.assertEqual(best(books_of([rules]), (0, 16))[1], 1600)
        self.assertEqual(best(books_of([rules] * 5), (0, 3))[1], 300)
        self.assertEqual(best([Book(alike(24))], (0, 24))[0], "had")
        self.assertEqual(best(books_of([rules]), (LAST - 1, LAST + 2))[0], "off")
        self.assertEqual(best([], (3, 5)), ("off", [3]))


def due_cheapest(rows, many, first, last):
    found = []
    for come in range(first, last + 1):
        if come + many <= LAST:
            stay = (come, come + many)
            coins = due_least(due_parts(rows, stay), stay)
            if coins is not None:
                found.append((coins, come))
    return ((min(found)[1], min(found)[1] + many), min(found)[0]) if found else None


class Cheapest(Told):
    def told(self, rows, asked, due):
        books = books_of(rows)
        self.same(cheapest(books, *asked), due, (rows, asked))
        self.same(cheapest(books, *asked), due, (rows, asked))
        self.same([book.rules() for book in books], rows)

    def test_none_of_the_stays(self):
        self.told([[]], (1, 0, 39), None)
        self.told([[], []], (14, 5, 5), None)
        self.told([[("price", 0, 39, 10)]], (2, 39, 60), None)
        self.told([[("price", 0, 60, 10), ("come", 3, 9, False)]], (2, 3, 9), None)
        self.told([[("price", 0, 60, 10), ("go", 3, 9, False)]], (2, 3, 7), None)

    def test_one_of_the_stays(self):
        self.told([[("price", 7, 8, 10)]], (2, 0, 39), ((7, 9), 20))
        self.told([[("price", 39, 40, 10)]], (2, 0, 39), ((39, 41), 20))
        self.told([[("price", 0, 1, 10)]], (2, 0, 39), ((0, 2), 20))

    def test_the_least(self):
        rules = [("price", 0, 60, 10), ("price", 8, 8, 5), ("price", 20, 20, 4)]
        self.told([rules], (1, 0, 39), ((20, 21), 4))
        self.told([rules], (1, 0, 19), ((8, 9), 5))
        self.told([rules], (1, 9, 19), ((9, 10), 10))
        self.told([rules], (1, 20, 20), ((20, 21), 4))
        self.told([rules], (1, 21, 21), ((21, 22), 10))

    def test_of_alike_ones_the_first(self):
        rules = [("price", 0, 60, 10), ("price", 8, 8, 5), ("price", 20, 20, 5)]
        self.told([rules], (1, 0, 39), ((8, 9), 5))
        self.told([rules], (2, 0, 39), ((7, 9), 15))
        self.told([rules], (2, 8, 39), ((8, 10), 15))
        self.told([[("price", 0, 60, 10)]], (3, 4, 30), ((4, 7), 30))
        self.told([[("price", 0, 60, 0)]], (3, 4, 30), ((4, 7), 0))

    def test_by_several_books(self):
        one = [("price", 0, 60, 10)]
        other = [("price", 7, 7, 1), ("price", 9, 9, 2)]
        self.told([one, other], (3, 0, 39), ((7, 10), 13))
        self.told([one, other], (1, 0, 39), ((7, 8), 1))
        self.told([one, other, [("price", 30, 32, 4)]], (3, 0, 39), ((30, 33), 12))

    def test_a_cut_may_be_cheaper(self):
        rules = [("price", 0, 60, 10), ("deal", 5, 5, (2, 1)), ("deal", 7, 7, (2, 1))]
        self.told([rules], (4, 0, 39), ((5, 9), 20))

    def test_stays_that_would_go_behind_the_last_day(self):
        rules = [("price", 0, LAST, 10), ("price", LAST - 3, LAST, 5)]
        self.told([rules], (3, LAST - 10, LAST), ((LAST - 3, LAST), 15))
        self.told([rules], (1, LAST - 10, LAST), ((LAST - 3, LAST - 2), 5))
        self.told([rules], (1, LAST - 1, LAST), ((LAST - 1, LAST), 5))
        self.told([rules], (1, LAST, LAST), None)
        self.told([rules], (14, LAST - 13, LAST), None)
        self.told([rules], (14, LAST - 39, LAST), ((LAST - 14, LAST), 125))

    def test_one_day_and_forty(self):
        rules = [("price", 0, 60, 10), ("price", 39, 39, 1)]
        for many in (1, 14):
            self.told([rules], (many, 0, 39), due_cheapest([rules], many, 0, 39))
            for day in (0, 25, 26, 38, 39):
                self.told([rules], (many, day, day), due_cheapest([rules], many, day, day))
        self.told([rules], (1, 0, 39), ((39, 40), 1))
        self.told([rules], (14, 0, 39), ((26, 40), 131))

    def test_scattered_books(self):
        row = numbers(17)
        none = 0
        for seed in range(60):
            begin = (0, LAST - 19)[seed % 2]
            rows = scattered_rows(seed, 1 + seed % 3, 20, begin)
            asked = (1 + next(row) % (14 if seed % 3 == 0 else 3), begin + next(row) % 9, begin + 9 + next(row) % 11)
            due = due_cheapest(rows, *asked)
            none += due is None
            self.told(rows, asked, due)
        self.assertGreater(none, 5)
        self.assertLess(none, 40)

    def test_a_book_more_makes_it_no_dearer(self):
        for seed in range(60):
            rows = scattered_rows(seed, 2, 12)
            told = cheapest(books_of(rows[:1]), 1 + seed % 4, 0, 8)
            if told is not None:
                self.assertLessEqual(cheapest(books_of(rows), 1 + seed % 4, 0, 8)[1], told[1])


if __name__ == "__main__":
    unittest.main()
