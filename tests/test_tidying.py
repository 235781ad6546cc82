"""Books that tell the same, and books without needless rules: points 23 and 24, and 2 and 3 for these."""

import itertools
import unittest

from scattered import COINS, ELSE, LAST, SHORT, WORDS, WORTHS, Told, alike, books_of, due_worth, scattered_rules
from stayprice.books import Book
from stayprice.tidying import tidied, unlike
from stayprice.twos import apart

# A worth of each word that is not the usual one, and another such.
OTHERWISE = {
    "price": (7, 8), "come": (False, False), "go": (False, False), "least": (3, 2), "most": (5, 6),
    "deal": ((7, 2), (7, 3)), "fee": (9, 0),
}


def due_unlike(one, other, days):
    """Goes through the words and all these days."""
    for word in WORDS:
        for day in days:
            if repr(due_worth(one, word, day)) != repr(due_worth(other, word, day)):
                return (word, day)
    return None


class Unlike(Told):
    def told(self, one, other, due):
        books = books_of([one, other])
        self.same(unlike(books[0], books[1]), due, (one, other))
        self.same(unlike(books[1], books[0]), due, (other, one))
        self.same([book.rules() for book in books], [one, other])

    def test_alike(self):
        self.told([], [], None)
        self.told([("price", 0, 9, 5)], [("price", 0, 4, 5), ("price", 5, 9, 5)], None)
        self.told([("price", 3, 4, 1), ("price", 0, 9, 5)], [("price", 0, 9, 5)], None)
        self.told([("price", 0, 9, 5), ("come", 3, 3, False)], [("come", 3, 3, False), ("price", 0, 9, 5)], None)
        for word in WORDS:
            self.told([(word, 0, LAST, ELSE[word])], [], None)

    def test_each_word(self):
        for word in WORDS:
            worth = OTHERWISE[word][0]
            for first, last in ((0, 0), (0, LAST), (5, 9), (5, 5), (5, LAST), (LAST, LAST)):
                self.told([(word, first, last, worth)], [], (word, first))
            self.told([(word, 5, 9, worth)], [(word, 5, 8, worth)], (word, 9))
            self.told([(word, 5, 9, worth)], [(word, 4, 9, worth)], (word, 4))
            self.told([(word, 5, LAST, worth)], [(word, 5, LAST - 1, worth)], (word, LAST))
            self.told([(word, 0, 9, worth)], [(word, 1, 9, worth)], (word, 0))

    def test_worths_that_are_both_not_usual(self):
        for word in WORDS:
            one, other = OTHERWISE[word]
            due = None if one == other else (word, 4)
            self.told([(word, 4, 9, one)], [(word, 4, 9, other)], due)

    def test_nought_and_none(self):
        self.told([("price", 4, 9, 0)], [], ("price", 4))
        self.told([("price", 4, 9, 0)], [("price", 0, 9, None)], ("price", 4))
        self.told([("price", 4, 9, COINS)], [("price", 4, 9, COINS - 1)], ("price", 4))

    def test_the_first_word_where_several_are_unlike(self):
        for one, other in itertools.combinations(WORDS, 2):
            rules = [(other, 0, 9, OTHERWISE[other][0]), (one, 8, 9, OTHERWISE[one][0])]
            self.told(rules, [], (one, 8))
            self.told(rules[:1], rules[1:], (one, 8))

    def test_the_least_day(self):
        self.told([("fee", 700, 900, 1), ("fee", 30, 40, 1)], [], ("fee", 30))
        self.told([("fee", 700, 900, 1), ("fee", 30, 40, 1)], [("fee", 30, 40, 1)], ("fee", 700))
        # A newer rule hides what is unlike on its days.
        self.told([("fee", 3, 9, 1), ("fee", 3, 7, 0)], [], ("fee", 8))
        self.told([("fee", 3, 9, 1), ("fee", 5, 7, 0)], [("fee", 3, 4, 1), ("fee", 8, 9, 1)], None)

    def test_unlike_books_that_are_alike_for_every_stay(self):
        one = [("price", 0, 9, 5), ("come", 3, 3, False), ("fee", 3, 3, 10)]
        other = [("price", 0, 9, 5), ("come", 3, 3, False)]
        self.told(one, other, ("fee", 3))
        self.assertIsNone(apart(Book(one), Book(other)))

    def test_books_of_twenty_four_rules(self):
        self.told(alike(24), alike(24), None)
        self.told(alike(24), alike(23), ("price", 23))

    def test_scattered_books(self):
        found = []
        for seed in range(300):
            begin = (0, 50, LAST - 11)[seed % 3]
            one = scattered_rules(seed, seed % 25, 12, begin, WORDS[:1 + seed % 7], SHORT)
            other = one[:seed % 5] + one[seed % 5 + 1:] if seed % 4 else scattered_rules(seed + 1, 9, 12, begin)
            due = due_unlike(one, other, [0] + list(range(begin, begin + 12)))
            found.append(due)
            self.told(one, other, due)
        self.assertGreater(len([due for due in found if due is None]), 50)
        self.assertGreater(len(set(due[0] for due in found if due)), 5)


class Tidied(Told):
    def tidy(self, rules):
        """The rules that are left, held against the document."""
        book = Book(rules)
        told = tidied(book)
        self.assertIs(type(told), Book)
        left = told.rules()
        self.assertTrue(self.is_some_of(left, rules), (rules, left))
        days = sorted(set([0, LAST] + [day for rule in rules for day in (rule[1], rule[2], min(rule[2] + 1, LAST))]))
        days = sorted(set(days + [max(0, day - 1) for day in days]))
        self.assertIsNone(due_unlike(rules, left, days), (rules, left))
        for place in range(len(left)):
            self.assertIsNotNone(due_unlike(rules, left[:place] + left[place + 1:], days), (rules, left, place))
        self.same(tidied(told).rules(), left)
        self.same(tidied(book).rules(), left)
        self.same(book.rules(), rules)
        return left

    def is_some_of(self, left, rules):
        """Whether these are some of the rules, in their order."""
        place = 0
        for rule in rules:
            if place < len(left) and repr(rule) == repr(left[place]):
                place += 1
        return place == len(left)

    def test_no_rules(self):
        self.same(self.tidy([]), [])

    def test_nothing_needless(self):
        for rules in (
            [("price", 0, 9, 5)], [("price", 0, 9, 5), ("price", 3, 4, 7)], [("price", 3, 4, 7), ("price", 0, 3, 5)],
            [(word, 3, 9, OTHERWISE[word][0]) for word in WORDS],
        ):
            self.same(self.tidy(rules), rules)

    def test_a_rule_told_twice(self):
        for word in WORDS:
            rule = (word, 3, 9, OTHERWISE[word][0])
            self.same(self.tidy([rule, rule]), [rule])
            self.same(self.tidy([rule] * 10), [rule])

    def test_a_rule_wholly_hidden(self):
        for word in WORDS:
            one, other = OTHERWISE[word]
            self.same(self.tidy([(word, 3, 9, one), (word, 3, 9, ELSE[word])]), [])
            rule = (word, 2, 10, other)
            self.same(self.tidy([(word, 3, 9, ELSE[word]), rule]), [rule] if other != ELSE[word] else [])

    def test_what_holds_else(self):
        for word in WORDS:
            self.same(self.tidy([(word, 3, 9, ELSE[word])]), [])
            self.same(self.tidy([(word, 0, LAST, ELSE[word])]), [])
            rules = [(word, 3, 9, OTHERWISE[word][0]), (word, 5, 5, ELSE[word])]
            self.same(self.tidy(rules), rules)

    def test_hidden_by_several_together(self):
        newer = [("fee", 3, 5, 1), ("fee", 6, 9, 2)]
        self.same(self.tidy([("fee", 3, 9, 7)] + newer), newer)
        self.same(self.tidy([("fee", 4, 8, 7)] + newer), newer)
        self.same(self.tidy([("fee", 3, 10, 7)] + newer), [("fee", 3, 10, 7)] + newer)
        self.same(self.tidy([("fee", 2, 9, 7)] + newer), [("fee", 2, 9, 7)] + newer)

    def test_a_rule_that_tells_what_an_elder_one_tells(self):
        self.assertEqual(len(self.tidy([("fee", 0, 9, 7), ("fee", 3, 4, 7)])), 1)
        self.assertEqual(len(self.tidy([("fee", 3, 4, 7), ("fee", 0, 9, 7)])), 1)
        self.assertEqual(len(self.tidy([("fee", 0, 5, 7), ("fee", 4, 9, 7)])), 2)

    def test_needed_only_for_what_is_needless(self):
        # The middle rule gives back what the eldest hid; without that one it is needless too.
        rules = [("fee", 3, 4, 7), ("fee", 3, 4, 0)]
        self.same(self.tidy(rules), [])
        rules = [("price", 0, 9, 5), ("price", 3, 4, 7), ("price", 3, 4, 5)]
        self.same(self.tidy(rules), [("price", 0, 9, 5)])
        rules = [("come", 3, 4, False), ("come", 3, 3, True), ("come", 4, 4, True), ("come", 4, 5, False)]
        self.assertEqual(len(self.tidy(rules)), 1)

    def test_other_words_hide_nothing(self):
        rules = [("least", 0, 9, 3), ("most", 0, 9, 3), ("fee", 0, 9, 3), ("price", 0, 9, 3)]
        for order in itertools.permutations(rules):
            self.same(self.tidy(list(order)), list(order))

    def test_at_day_nought_and_at_the_last_day(self):
        for day in (0, LAST):
            self.same(self.tidy([("fee", day, day, 7), ("fee", day, day, 8)]), [("fee", day, day, 8)])
            rules = [("fee", 0, LAST, 7), ("fee", day, day, 8)]
            self.same(self.tidy(rules), rules)

    def test_every_small_book(self):
        every = [("fee", first, last, worth) for first in range(3) for last in range(first, 3) for worth in (0, 1)]
        for many in (1, 2, 3):
            for rules in itertools.product(every, repeat=many):
                self.tidy(list(rules))

    def test_scattered_books(self):
        gone = 0
        for seed in range(300):
            begin = (0, 50, LAST - 9)[seed % 3]
            rules = scattered_rules(seed, 1 + seed % 10, 10, begin, WORDS[:1 + seed % 7], (SHORT, WORTHS)[seed % 2])
            gone += len(rules) - len(self.tidy(rules))
        self.assertGreater(gone, 300)

    def test_books_of_twenty_four_rules(self):
        for seed in range(20):
            self.tidy(scattered_rules(seed, 24, 14, 3, WORDS[:1 + seed % 7], SHORT))

    def test_it_is_alike_for_every_stay(self):
        for seed in range(20):
            book = Book([("price", 0, 20, 100)] + scattered_rules(seed, 9, 14, 0, WORDS, SHORT))
            self.assertIsNone(apart(book, tidied(book)))

    def test_it_is_the_askers_own(self):
        rules = [("fee", 3, 4, 7)]
        book = Book(rules)
        tidied(book).rules().clear()
        self.same(tidied(book).rules(), rules)
        self.same(book.rules(), rules)


if __name__ == "__main__":
    unittest.main()
