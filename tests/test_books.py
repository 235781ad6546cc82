"""Books, books laid over one another, and the days on which rules show: points 7 and 8, and 2 for these."""

import copy
import itertools
import unittest

from scattered import ELSE, LAST, NO_RULES, WORDS, WORTHS, Told, alike, due_worth, scattered_rules
from stayprice.books import Book, laid, shown
from stayprice.errors import NoRule, TooMany


class Lists(Told):
    def refused(self, kind, things):
        kept = copy.deepcopy(things)
        with self.assertRaises(kind) as taken:
            Book(things)
        self.assertIs(type(taken.exception), kind)
        self.same(things, kept)
        return taken.exception


class Making(Lists):
    def test_a_book_of_no_rules(self):
        for book in (Book(), Book(None), Book([])):
            self.same(book.rules(), [])

    def test_a_book_of_one_rule(self):
        for word in WORDS:
            for worth in WORTHS[word]:
                for first, last in ((0, 0), (3, 9), (0, LAST), (LAST, LAST)):
                    self.same(Book([(word, first, last, worth)]).rules(), [(word, first, last, worth)])

    def test_books_of_up_to_24_rules_keep_their_order(self):
        for many in range(25):
            self.same(Book(alike(many)).rules(), alike(many))
            self.same(Book(alike(many)[::-1]).rules(), alike(many)[::-1])
            rules = scattered_rules(many + 1, many)
            self.same(Book(rules).rules(), rules)

    def test_the_same_rule_again_and_again(self):
        self.same(Book([("fee", 3, 9, 5)] * 24).rules(), [("fee", 3, 9, 5)] * 24)

    def test_more_than_24_rules(self):
        for many in range(25, 33):
            self.refused(TooMany, alike(many))
            self.refused(TooMany, scattered_rules(many, many))
            self.refused(TooMany, [("fee", 3, 9, 5)] * many)


class NoRules(Lists):
    def number(self, things, due):
        number = self.refused(NoRule, things).number
        self.same(number, due, things)

    def test_alone(self):
        for thing in NO_RULES:
            self.number([thing], 0)

    def test_at_each_place(self):
        for thing in NO_RULES:
            for many in (2, 3, 24):
                for place in (0, many // 2, many - 1):
                    things = alike(many)
                    things[place] = thing
                    self.number(things, place)

    def test_of_two_the_first_is_told(self):
        for one, other in zip(NO_RULES, NO_RULES[5:] + NO_RULES[:5]):
            for first, second in ((0, 1), (0, 9), (4, 5), (3, 9), (8, 9)):
                things = alike(10)
                things[first] = one
                things[second] = other
                self.number(things, first)

    def test_nothing_but_such(self):
        self.number(list(NO_RULES[:32]), 0)

    def test_ahead_of_too_many(self):
        for many in (25, 28, 32):
            for place in range(many):
                things = alike(many)
                things[place] = NO_RULES[place % len(NO_RULES)]
                self.number(things, place)

    def test_one_thing_more_than_24_that_is_no_rule(self):
        for thing in NO_RULES:
            self.number(alike(24) + [thing], 24)
            self.number(alike(31) + [thing], 31)


class Copies(Told):
    def test_what_is_handed_in_is_not_changed(self):
        for many in (0, 1, 7, 24):
            handed = scattered_rules(many, many)
            kept = list(handed)
            book = Book(handed)
            book.rules()
            book.tells_of("price", 3)
            shown(book)
            laid(book, Book())
            self.same(handed, kept)

    def test_what_is_done_behind_the_call_changes_nothing(self):
        handed = [("price", 3, 9, 100), ("fee", 3, 9, 7)]
        kept = list(handed)
        book = Book(handed)
        handed.append(("price", 3, 9, 200))
        handed[1] = ("fee", 3, 9, 8)
        self.same(book.rules(), kept)
        self.same((book.tells_of("price", 3), book.tells_of("fee", 3)), (100, 7))
        handed.clear()
        self.same(book.rules(), kept)
        self.same((book.tells_of("price", 3), book.tells_of("fee", 3)), (100, 7))

    def test_a_list_of_none_handed_in(self):
        handed = []
        book = Book(handed)
        handed.append(("price", 3, 9, 200))
        self.same(book.rules(), [])
        self.same(book.tells_of("price", 3), None)

    def test_what_is_done_to_a_told_list_changes_nothing(self):
        book = Book([("price", 3, 9, 100), ("fee", 3, 9, 7)])
        told = book.rules()
        self.assertIsNot(told, book.rules())
        told.append(("price", 3, 9, 200))
        told[1] = ("fee", 3, 9, 8)
        self.same(book.rules(), [("price", 3, 9, 100), ("fee", 3, 9, 7)])
        self.same((book.tells_of("price", 3), book.tells_of("fee", 3)), (100, 7))

    def test_books_of_no_rules_have_each_their_own(self):
        one = Book()
        one.rules().append(("price", 3, 9, 200))
        self.same((one.rules(), Book().rules(), Book(None).rules()), ([], [], []))

    def test_two_books_of_one_list(self):
        handed = [("price", 3, 9, 100)]
        one = Book(handed)
        handed[0] = ("price", 3, 9, 200)
        other = Book(handed)
        self.same((one.tells_of("price", 3), other.tells_of("price", 3)), (100, 200))


class TellsOf(Told):
    def test_where_no_rule_tells(self):
        for word in WORDS:
            for day in (0, 1, 500, LAST - 1, LAST):
                self.same(Book().tells_of(word, day), ELSE[word], word)
        due = [None, True, True, 1, 14, None, 0]
        self.same([Book([]).tells_of(word, 4) for word in WORDS], due)

    def test_at_both_ends_and_one_day_beside_them(self):
        for word in WORDS:
            for worth in WORTHS[word]:
                for first, last in ((3, 9), (4, 4), (1, LAST - 1), (0, 0), (LAST, LAST), (0, LAST)):
                    book = Book([(word, first, last, worth)])
                    for day in (first - 1, first, last, last + 1):
                        if 0 <= day <= LAST:
                            due = worth if first <= day <= last else ELSE[word]
                            self.same(book.tells_of(word, day), due, (word, first, last, worth, day))

    def test_a_rule_of_one_word_tells_nothing_of_another(self):
        for word, other in itertools.permutations(WORDS, 2):
            for worth in WORTHS[word]:
                self.same(Book([(word, 0, LAST, worth)]).tells_of(other, 5), ELSE[other], (word, other))

    def test_the_newest_tells(self):
        for word in WORDS:
            for elder, newer in itertools.product(WORTHS[word], repeat=2):
                book = Book([(word, 2, 9, elder), (word, 4, 6, newer)])
                told = [book.tells_of(word, day) for day in (1, 2, 3, 4, 5, 6, 7, 9, 10)]
                usual = ELSE[word]
                self.same(told, [usual, elder, elder, newer, newer, newer, elder, elder, usual])
                turned = Book([(word, 4, 6, newer), (word, 2, 9, elder)])
                told = [turned.tells_of(word, day) for day in (1, 2, 3, 4, 5, 6, 7, 9, 10)]
                self.same(told, [usual] + [elder] * 7 + [usual])

    def test_the_newest_of_24(self):
        rules = [("price", 0, 23 - step, step) for step in range(24)]
        book = Book(rules)
        self.same([book.tells_of("price", day) for day in range(25)], list(range(23, -1, -1)) + [None])
        self.same([Book(rules[::-1]).tells_of("price", day) for day in range(25)], [0] * 24 + [None])

    def test_a_newer_rule_that_tells_what_holds_else(self):
        for word in WORDS:
            for worth in WORTHS[word]:
                book = Book([(word, 3, 9, worth), (word, 5, 5, ELSE[word])])
                self.same([book.tells_of(word, day) for day in (4, 5, 6)], [worth, ELSE[word], worth])

    def test_scattered_books(self):
        for seed in range(60):
            for begin in (0, LAST - 11):
                rules = scattered_rules(seed, seed % 25, 12, begin)
                book = Book(rules)
                for word in WORDS:
                    for day in range(max(0, begin - 1), min(LAST, begin + 13) + 1):
                        self.same(book.tells_of(word, day), due_worth(rules, word, day), (rules, word, day))

    def test_asking_changes_nothing(self):
        rules = scattered_rules(5, 20)
        book = Book(rules)
        one = [book.tells_of(word, day) for word in WORDS for day in range(14)]
        other = [book.tells_of(word, day) for word in WORDS for day in range(14)]
        self.same(one, other)
        self.same(book.rules(), rules)


class Laid(Told):
    def both(self, elder, newer):
        one = Book(elder)
        other = Book(newer)
        told = laid(one, other)
        self.assertIs(type(told), Book)
        self.same(told.rules(), elder + newer)
        self.same((one.rules(), other.rules()), (elder, newer))
        return told

    def test_up_to_24_rules_together(self):
        for many in (0, 1, 11, 12, 23, 24):
            for ahead in sorted({0, 1, many // 2, many} & set(range(many + 1))):
                rules = scattered_rules(many + ahead, many)
                self.both(rules[:ahead], rules[ahead:])

    def test_more_than_24_together(self):
        for many in (25, 26, 48):
            for ahead in range(many - 24, 25):
                rules = scattered_rules(many + ahead, many)
                one = Book(rules[:ahead])
                other = Book(rules[ahead:])
                with self.assertRaises(TooMany) as taken:
                    laid(one, other)
                self.assertIs(type(taken.exception), TooMany)
                self.same((one.rules(), other.rules()), (rules[:ahead], rules[ahead:]))

    def test_with_a_book_without_rules_either_way(self):
        for many in (0, 1, 24):
            rules = scattered_rules(many, many)
            self.both(rules, [])
            self.both([], rules)

    def test_over_itself(self):
        rules = scattered_rules(3, 12)
        book = Book(rules)
        self.same(laid(book, book).rules(), rules + rules)
        self.same(book.rules(), rules)

    def test_what_the_newer_one_tells_goes_first(self):
        elder = [("price", 0, 9, 100), ("fee", 0, 9, 5)]
        told = self.both(elder, [("price", 4, 6, None), ("least", 4, 4, 2)])
        self.same([told.tells_of("price", day) for day in (3, 4, 6, 7)], [100, None, None, 100])
        self.same([told.tells_of("least", day) for day in (3, 4, 5)], [1, 2, 1])
        self.same([told.tells_of("fee", day) for day in (4, 10)], [5, 0])

    def test_scattered_books(self):
        for seed in range(40):
            elder = scattered_rules(seed, seed % 13, 9)
            newer = scattered_rules(seed + 500, (seed * 7) % 12, 9)
            told = self.both(elder, newer)
            for word in WORDS:
                for day in range(11):
                    own = [rule for rule in newer if rule[0] == word and rule[1] <= day <= rule[2]]
                    due = due_worth(own, word, day) if own else due_worth(elder, word, day)
                    self.same(told.tells_of(word, day), due, (elder, newer, word, day))

    def test_the_three_have_each_their_own(self):
        one = Book([("price", 0, 9, 100)])
        other = Book([("price", 4, 6, 200)])
        told = laid(one, other)
        again = laid(told, Book([("price", 0, 9, 300)]))
        told.rules().clear()
        again.rules().clear()
        self.same([book.tells_of("price", 5) for book in (one, other, told, again)], [100, 200, 200, 300])
        self.same([book.tells_of("price", 0) for book in (one, other, told, again)], [100, None, 100, 300])
        self.same([len(book.rules()) for book in (one, other, told, again)], [1, 1, 2, 3])


def due_shown(rules):
    """Day by day, over the days on which anything may change."""
    told = []
    for place, rule in enumerate(rules):
        newer = [other for other in rules[place + 1:] if other[0] == rule[0]]
        days = [
            day for day in range(rule[1], rule[2] + 1)
            if not any(other[1] <= day <= other[2] for other in newer)
        ]
        stretches = []
        for day in days:
            if stretches and stretches[-1][1] + 1 == day:
                stretches[-1] = (stretches[-1][0], day)
            else:
                stretches.append((day, day))
        told.append(stretches)
    return told


class Shown(Told):
    def shows(self, rules, due):
        book = Book(rules)
        told = shown(book)
        self.assertIs(type(told), list)
        self.same(told, due, rules)
        self.same(book.rules(), rules)

    def test_a_book_without_rules(self):
        self.same(shown(Book()), [])

    def test_one_rule_shows_on_all_its_days(self):
        for word in WORDS:
            for first, last in ((3, 9), (4, 4), (0, LAST), (0, 0), (LAST, LAST)):
                self.shows([(word, first, last, WORTHS[word][0])], [[(first, last)]])

    def test_wholly_hidden(self):
        for word in WORDS:
            one, other = WORTHS[word][:2]
            for first, last in ((3, 9), (2, 9), (3, 10), (0, LAST)):
                self.shows([(word, 3, 9, one), (word, first, last, other)], [[], [(first, last)]])
            self.shows([(word, 3, 9, one)] * 3, [[], [], [(3, 9)]])
            self.shows(
                [(word, 3, 9, one), (word, 7, 12, other), (word, 0, 6, one)], [[], [(7, 12)], [(0, 6)]],
            )

    def test_cut_in_two(self):
        for word in WORDS:
            one, other = WORTHS[word][:2]
            self.shows([(word, 3, 9, one), (word, 5, 6, other)], [[(3, 4), (7, 9)], [(5, 6)]])
            self.shows([(word, 3, 5, one), (word, 4, 4, other)], [[(3, 3), (5, 5)], [(4, 4)]])

    def test_cut_in_more(self):
        for word in WORDS:
            one, other = WORTHS[word][:2]
            self.shows(
                [(word, 0, 20, one), (word, 12, 12, other), (word, 3, 4, other), (word, 18, 25, other)],
                [[(0, 2), (5, 11), (13, 17)], [(12, 12)], [(3, 4)], [(18, 25)]],
            )

    def test_cut_at_an_end(self):
        self.shows([("fee", 3, 9, 1), ("fee", 0, 3, 2)], [[(4, 9)], [(0, 3)]])
        self.shows([("fee", 3, 9, 1), ("fee", 9, 9, 2)], [[(3, 8)], [(9, 9)]])

    def test_not_hidden_at_all(self):
        self.shows([("fee", 3, 9, 1), ("fee", 0, 2, 2), ("fee", 10, 12, 3)], [[(3, 9)], [(0, 2)], [(10, 12)]])

    def test_an_elder_rule_hides_nothing(self):
        self.shows([("fee", 0, 20, 1), ("fee", 3, 9, 2)], [[(0, 2), (10, 20)], [(3, 9)]])
        self.shows([("fee", 3, 9, 2), ("fee", 0, 20, 1)], [[], [(0, 20)]])

    def test_a_rule_of_another_word_hides_nothing(self):
        for word, other in itertools.permutations(WORDS, 2):
            self.shows([(word, 3, 9, WORTHS[word][0]), (other, 0, LAST, WORTHS[other][0])], [[(3, 9)], [(0, LAST)]])
        every = [(word, 3, 9, WORTHS[word][0]) for word in WORDS]
        self.shows(every, [[(3, 9)]] * 7)
        self.shows(every + every, [[]] * 7 + [[(3, 9)]] * 7)

    def test_the_worth_plays_no_part(self):
        for word in WORDS:
            for one, other in itertools.product(WORTHS[word], repeat=2):
                self.shows([(word, 3, 9, one), (word, 5, 9, other)], [[(3, 4)], [(5, 9)]])

    def test_at_the_ends_of_all_days(self):
        self.shows(
            [("price", 0, LAST, 1), ("price", 0, 0, 2), ("price", LAST, LAST, 3)],
            [[(1, LAST - 1)], [(0, 0)], [(LAST, LAST)]],
        )
        self.shows([("price", 0, LAST, 1), ("price", 1, LAST - 1, 2)], [[(0, 0), (LAST, LAST)], [(1, LAST - 1)]])
        self.shows([("price", 0, 0, 1), ("price", 0, 0, 2)], [[], [(0, 0)]])
        self.shows([("price", LAST, LAST, 1), ("price", LAST, LAST, 2)], [[], [(LAST, LAST)]])
        self.shows([("price", 0, LAST, 1), ("price", 0, LAST, 2)], [[], [(0, LAST)]])

    def test_scattered_books(self):
        for seed in range(80):
            for begin in (0, LAST - 19):
                for words in (WORDS, ("price", "fee"), ("go",)):
                    rules = scattered_rules(seed, seed % 25, 20, begin, words)
                    self.shows(rules, due_shown(rules))

    def test_each_day_is_told_of_by_the_rule_that_shows(self):
        for seed in range(20):
            rules = scattered_rules(seed, 24, 10, 0, ("price", "deal"))
            book = Book(rules)
            for rule, stretches in zip(rules, shown(book)):
                for first, last in stretches:
                    for day in range(first, last + 1):
                        self.same(book.tells_of(rule[0], day), rule[3])

    def test_what_is_told_is_the_askers_own(self):
        book = Book([("price", 3, 9, 1), ("price", 5, 6, 2), ("fee", 3, 9, 1)])
        due = [[(3, 4), (7, 9)], [(5, 6)], [(3, 9)]]
        told = shown(book)
        told[0].clear()
        told[1].append((77, 78))
        self.same(told[2], [(3, 9)])
        told.append(None)
        self.same(shown(book), due)
        self.same(book.rules(), [("price", 3, 9, 1), ("price", 5, 6, 2), ("fee", 3, 9, 1)])

    def test_hidden_rules_have_each_a_list_of_their_own(self):
        told = shown(Book([("price", 3, 9, 1)] * 4))
        told[0].append("changed")
        self.same(told[1:], [[], [], [(3, 9)]])


if __name__ == "__main__":
    unittest.main()
