"""The looker: point 18, and 2 and 3 for it."""

import itertools
import unittest

from scattered import COINS, HUGE, LAST, Told, all_cuts, books_of, due_parts, numbers, scattered_rows
from stayprice.books import Book
from stayprice.cuts import best
from stayprice.looker import is_cut, lets_by

ANY = (
    None, True, False, 0, 1, 3, -1, HUGE, -HUGE, "", "had", "off", "cut", [], (), [[]], [()], ((),), ([],), [None], [0], [3],
    ["had"], ["off"], ("had",), ("off",), ("had", 0), ("off", 3), ("off", "3"), ("off", None), ("off", True), ("off", ()),
    ("off", (3,)), ("off", []), ("off", [3], []), ("off", [3], 3), ["off", [3]], (["off"], [3]), (("off",), [3]),
    ("had", 0, []), ("had", 0, [], []), ("had", None, None, None), ("had", [], [], []), ("had", 0, [], [], []),
    ["had", 0, [], []], (["had"], 0, [], []), (None, 0, [], []), (0, 0, [], []), (True, [3]), (0, [3]),
    [(3, 4)], [(3, 4, 0, 0)], [[3, 4, 0]], [(3, 4, None)], [("3", "4", "0")], [((3,), (4,), (0,))], [([3], [4], [0])],
    [[[3]]], (((3,),),), "off 3", "had 0",
)


def is_whole(thing):
    return type(thing) is int


def due_cut(parts, stay, thing):
    """Whether it is one of all the cuts, by the kinds of its parts and one by one."""
    if type(thing) is not list or thing == []:
        return False
    for part in thing:
        if type(part) is not tuple or [type(number) for number in part] != [int, int, int] or part not in parts:
            return False
    days = [part[0] for part in thing] + [thing[-1][1]]
    return days[0] == stay[0] and days[-1] == stay[1] and days[1:] == [part[1] for part in thing]


def due_had(parts, stay, coins, cut, paper):
    if not due_cut(parts, stay, cut) or not is_whole(coins) or coins != sum(parts[part] for part in cut):
        return False
    if type(paper) is not list or not all(is_whole(number) for number in paper):
        return False
    if len(paper) != stay[1] - stay[0] or sum(paper) != coins:
        return False
    return all(sum(paper[part[0] - stay[0]:part[1] - stay[0]]) <= parts[part] for part in parts)


def due_off(parts, stay, days):
    if type(days) is not list or not all(is_whole(day) for day in days) or days != sorted(set(days)):
        return False
    if stay[0] not in days or stay[1] in days or not all(stay[0] <= day <= stay[1] for day in days):
        return False
    return not any(part[0] in days and part[1] not in days for part in parts)


def due_let(parts, stay, thing):
    if type(thing) is not tuple or thing == () or type(thing[0]) is not str:
        return False
    if thing[0] == "had" and len(thing) == 4:
        return due_had(parts, stay, *thing[1:])
    return thing[0] == "off" and len(thing) == 2 and due_off(parts, stay, thing[1])


class Looked(Told):
    def answered(self, ask, asked, due):
        rows, stay, thing = asked
        books = books_of(rows)
        before = repr(thing)
        self.assertIs(ask(books, stay, thing), due, asked)
        self.assertEqual(repr(thing), before)
        self.same([book.rules() for book in books], rows)

    def cut(self, rows, stay, thing, due):
        self.answered(is_cut, (rows, stay, thing), due)

    def let(self, rows, stay, thing, due):
        self.answered(lets_by, (rows, stay, thing), due)


# By the first book nights cost 100 and 10 for coming, at most three together;
# by the other one night 5 alone is sold, for 50.
ONE = [("price", 0, 20, 100), ("fee", 0, 20, 10), ("most", 0, 20, 3)]
OTHER = [("price", 5, 5, 50)]
ROWS = [ONE, OTHER]
STAY = (3, 7)
CUT = [(3, 5, 0), (5, 6, 1), (6, 7, 0)]
DEARER = [(3, 6, 0), (6, 7, 0)]


class Cut(Looked):
    def test_cuts(self):
        self.cut(ROWS, STAY, CUT, True)
        self.cut(ROWS, STAY, DEARER, True)
        self.cut(ROWS, STAY, [(3, 4, 0), (4, 5, 0), (5, 6, 0), (6, 7, 0)], True)
        self.cut(ROWS, (3, 6), [(3, 6, 0)], True)
        self.cut(ROWS, (5, 6), [(5, 6, 0)], True)
        self.cut(ROWS, (5, 6), [(5, 6, 1)], True)
        self.cut([OTHER, ONE], STAY, [(3, 5, 1), (5, 6, 0), (6, 7, 1)], True)

    def test_of_anything(self):
        for thing in ANY:
            self.cut(ROWS, STAY, thing, False)
            self.cut(ROWS, STAY, [thing], False)
            self.cut(ROWS, STAY, CUT + [thing], False)
            self.cut(ROWS, STAY, [thing] + CUT, False)
            self.cut(ROWS, STAY, CUT[:1] + [thing] + CUT[2:], False)

    def test_a_part_less(self):
        for place in range(3):
            self.cut(ROWS, STAY, CUT[:place] + CUT[place + 1:], False)
        self.cut(ROWS, STAY, [], False)

    def test_a_part_twice(self):
        for place in range(3):
            self.cut(ROWS, STAY, CUT[:place + 1] + CUT[place:], False)
        self.cut(ROWS, STAY, CUT + CUT, False)

    def test_turned_about(self):
        for order in itertools.permutations(CUT):
            self.cut(ROWS, STAY, list(order), list(order) == CUT)

    def test_a_part_by_another_book(self):
        self.cut(ROWS, STAY, [(3, 5, 1), (5, 6, 1), (6, 7, 0)], False)
        self.cut(ROWS, STAY, [(3, 5, 0), (5, 6, 1), (6, 7, 1)], False)
        self.cut(ROWS, STAY, [(3, 5, 0), (5, 6, 0), (6, 7, 0)], True)
        for number in (-1, -2, 2, 3, 4, HUGE, -HUGE):
            self.cut(ROWS, STAY, [(3, 5, 0), (5, 6, number), (6, 7, 0)], False)
            self.cut(ROWS, STAY, [(3, 5, number), (5, 6, 1), (6, 7, 0)], False)

    def test_kinds(self):
        self.cut(ROWS, STAY, tuple(CUT), False)
        self.cut(ROWS, STAY, [list(part) for part in CUT], False)
        self.cut(ROWS, STAY, [[3, 5, 0]] + CUT[1:], False)
        self.cut(ROWS, STAY, [(3, 5, False), (5, 6, 1), (6, 7, 0)], False)
        self.cut(ROWS, STAY, [(3, 5, 0), (5, 6, True), (6, 7, 0)], False)
        self.cut(ROWS, STAY, [(3, 5, "0"), (5, 6, 1), (6, 7, 0)], False)
        self.cut(ROWS, STAY, [("3", 5, 0), (5, 6, 1), (6, 7, 0)], False)
        self.cut([ONE], (0, 1), [(0, 1, 0)], True)
        self.cut([ONE], (0, 1), [(False, 1, 0)], False)
        self.cut([ONE], (0, 1), [(0, True, 0)], False)
        self.cut(ROWS, STAY, [(3, 5, 0, 0), (5, 6, 1), (6, 7, 0)], False)
        self.cut(ROWS, STAY, [(3, 5), (5, 6, 1), (6, 7, 0)], False)

    def test_beyond_the_stay(self):
        self.cut(ROWS, STAY, [(2, 5, 0), (5, 6, 1), (6, 7, 0)], False)
        self.cut(ROWS, STAY, [(3, 5, 0), (5, 6, 1), (6, 8, 0)], False)
        self.cut(ROWS, STAY, CUT + [(7, 8, 0)], False)
        self.cut(ROWS, STAY, [(2, 3, 0)] + CUT, False)
        self.cut(ROWS, STAY, CUT + [(7, 8, 0), (8, 7, 0)], False)
        for part in ((3, HUGE, 0), (-HUGE, 7, 0), (3, -HUGE, 0), (HUGE, 7, 0), (HUGE, HUGE + 1, 0), (-1, 7, 0)):
            self.cut(ROWS, STAY, [part], False)
            self.cut(ROWS, STAY, CUT[:2] + [part], False)
            self.let(ROWS, STAY, ("had", 370, [part], [110, 100, 50, 110]), False)

    def test_parts_without_nights_or_backwards(self):
        self.cut(ROWS, STAY, [(3, 3, 0)] + CUT, False)
        self.cut(ROWS, STAY, CUT + [(7, 7, 0)], False)
        self.cut(ROWS, STAY, [(3, 5, 0), (5, 4, 0), (4, 5, 0), (5, 6, 1), (6, 7, 0)], False)
        self.cut(ROWS, STAY, [(3, 5, 0), (5, 3, 0)] + CUT, False)

    def test_with_gaps_and_days_in_common(self):
        self.cut(ROWS, STAY, [(3, 4, 0), (5, 6, 1), (6, 7, 0)], False)
        self.cut(ROWS, STAY, [(3, 6, 0), (5, 6, 1), (6, 7, 0)], False)
        self.cut(ROWS, STAY, [(4, 5, 0), (5, 6, 1), (6, 7, 0)], False)

    def test_parts_that_are_barred(self):
        self.cut(ROWS, STAY, [(3, 7, 0)], False)
        self.cut(ROWS, STAY, [(3, 4, 0), (4, 6, 1), (6, 7, 0)], False)
        for rule in (("price", 4, 4, None), ("come", 3, 3, False), ("go", 5, 5, False), ("least", 3, 3, 3), ("most", 3, 3, 1)):
            self.cut([ONE + [rule], OTHER], STAY, CUT, False)
        self.cut([ONE, OTHER + [("come", 5, 5, False)]], STAY, CUT, False)
        self.cut([ONE + [("come", 4, 5, False), ("go", 4, 4, False), ("least", 5, 5, 14)], OTHER], STAY, CUT, True)

    def test_a_part_of_more_nights_than_a_stay_has(self):
        self.cut([[("price", 0, 40, 1)]], (0, 14), [(0, 14, 0)], True)
        self.cut([[("price", 0, 40, 1)]], (0, 14), [(0, 15, 0)], False)

    def test_at_the_last_days(self):
        rules = [("price", 0, LAST, 1)]
        self.cut([rules], (LAST - 6, LAST), [(LAST - 6, LAST, 0)], True)
        self.cut([rules], (LAST - 6, LAST), [(LAST - 6, LAST - 1, 0), (LAST - 1, LAST, 0)], True)
        self.cut([rules], (LAST - 6, LAST), [(LAST - 6, LAST + 1, 0)], False)

    def test_every_small_list_of_parts(self):
        rows = [[("price", 0, 9, 10), ("most", 0, 9, 2)], [("price", 4, 4, 7)]]
        stay = (3, 5)
        parts = due_parts(rows, stay)
        cuts = [cut for cut in all_cuts(parts, 3, 5)]
        every = list(itertools.product(range(2, 7), range(2, 7), (-1, 0, 1, 2)))
        for many in (1, 2):
            for thing in itertools.product(every, repeat=many):
                if many == 1 or thing[0][0] == 3 or thing[1][1] == 5:
                    self.assertIs(is_cut(books_of(rows), stay, list(thing)), list(thing) in cuts, thing)
        self.assertEqual(len(cuts), 3)


class Had(Looked):
    # The least is 210 + 50 + 110.
    THING = ("had", 370, CUT, [110, 100, 50, 110])

    def spoilt(self, place, thing, due=False):
        self.let(ROWS, STAY, self.THING[:place] + (thing,) + self.THING[place + 1:], due)

    def test_as_it_should_be(self):
        self.let(ROWS, STAY, self.THING, True)
        self.let(ROWS, STAY, best(books_of(ROWS), STAY), True)

    def test_the_word(self):
        for word in ("off", "Had", "had ", "", "ha", None, True, 0, ["had"], ("had",)):
            self.spoilt(0, word)

    def test_the_coins(self):
        for coins in (369, 371, 0, -370, 740, HUGE, None, "370", [370], (370,), True):
            self.spoilt(1, coins)

    def test_coins_that_are_a_truth(self):
        rows = [[("price", 3, 3, 1)]]
        self.let(rows, (3, 4), ("had", 1, [(3, 4, 0)], [1]), True)
        self.let(rows, (3, 4), ("had", True, [(3, 4, 0)], [1]), False)
        self.let(rows, (3, 4), ("had", 1, [(3, 4, 0)], [True]), False)
        rows = [[("price", 3, 3, 0)]]
        self.let(rows, (3, 4), ("had", 0, [(3, 4, 0)], [0]), True)
        self.let(rows, (3, 4), ("had", False, [(3, 4, 0)], [0]), False)
        self.let(rows, (3, 4), ("had", 0, [(3, 4, 0)], [False]), False)
        self.let(rows, (3, 4), ("had", 0, [(3, 4, False)], [0]), False)

    def test_a_number_moved_to_another_night(self):
        paper = self.THING[3]
        for one, other in itertools.permutations(range(4), 2):
            moved = list(paper)
            moved[one] -= 1
            moved[other] += 1
            parts = due_parts(ROWS, STAY)
            due = all(sum(moved[part[0] - 3:part[1] - 3]) <= parts[part] for part in parts)
            self.spoilt(3, moved, due)
        self.spoilt(3, [110, 100, 51, 109])
        self.spoilt(3, [111, 99, 50, 110])

    def test_a_night_more_or_less(self):
        self.spoilt(3, [110, 100, 50, 110, 0])
        self.spoilt(3, [0, 110, 100, 50, 110])
        self.spoilt(3, [110, 100, 160])
        self.spoilt(3, [210, 50, 110])
        self.spoilt(3, [370])
        self.spoilt(3, [])

    def test_numbers_that_come_to_other_coins(self):
        for place in range(4):
            for step in (1, -1, 100, -100, HUGE):
                paper = list(self.THING[3])
                paper[place] += step
                self.spoilt(3, paper)
        self.spoilt(3, [0, 0, 0, 0])

    def test_kinds_of_the_paper(self):
        self.spoilt(3, (110, 100, 50, 110))
        self.spoilt(3, ["110", 100, 50, 110])
        self.spoilt(3, [[110], 100, 50, 110])
        self.spoilt(3, [None, 260, 0, 110])
        for thing in ANY:
            self.spoilt(3, thing)
            self.spoilt(3, [110, 100, 50, thing])

    def test_the_cut(self):
        for thing in ANY:
            self.spoilt(2, thing)
            self.spoilt(2, CUT + [thing])
        self.spoilt(2, tuple(CUT))
        self.spoilt(2, [list(part) for part in CUT])
        self.spoilt(2, list(reversed(CUT)))
        self.spoilt(2, CUT[:2])
        self.spoilt(2, CUT[1:])
        self.spoilt(2, CUT + CUT[2:])
        self.spoilt(2, [(3, 5, 0), (5, 6, True), (6, 7, 0)])
        self.spoilt(2, DEARER)

    def test_a_dearer_cut_with_its_own_coins(self):
        # No paper comes to what it costs.
        self.let(ROWS, STAY, ("had", 420, DEARER, [110, 100, 50, 110]), False)
        for paper in itertools.product((0, 50, 60, 100, 110, 160, 210), repeat=4):
            if sum(paper) == 420:
                self.let(ROWS, STAY, ("had", 420, DEARER, list(paper)), False)

    def test_another_paper(self):
        rows = [[("price", 0, 9, 100), ("fee", 0, 9, 10), ("come", 4, 5, False)]]
        for paper, due in (
            ([310, 0, 0], False), ([110, 100, 100], True), ([100, 100, 110], True), ([100, 110, 100], True),
            ([-1000, 1200, 110], True), ([109, 101, 100], True), ([111, 99, 100], False), ([110, 101, 99], False),
            ([110, -HUGE, HUGE + 200], True), ([-HUGE, 0, HUGE + 310], True), ([HUGE, 0, 310 - HUGE], False),
        ):
            self.let(rows, (3, 6), ("had", 310, [(3, 6, 0)], paper), due)

    def test_another_cut(self):
        rules = [("price", 0, 9, 100)]
        paper = [100, 100, 100]
        for cut in ([(3, 6, 0)], [(3, 4, 0), (4, 6, 1)], [(3, 5, 1), (5, 6, 0)], [(3, 4, 0), (4, 5, 1), (5, 6, 0)]):
            self.let([rules, rules], (3, 6), ("had", 300, cut, paper), True)

    def test_the_length_of_the_tuple(self):
        self.let(ROWS, STAY, self.THING[:3], False)
        self.let(ROWS, STAY, self.THING[:2], False)
        self.let(ROWS, STAY, self.THING[1:], False)
        self.let(ROWS, STAY, self.THING + (None,), False)
        self.let(ROWS, STAY, self.THING + ([],), False)
        self.let(ROWS, STAY, list(self.THING), False)
        self.let(ROWS, STAY, (self.THING,), False)

    def test_parts_of_every_book_are_held_against_the_paper(self):
        for many in (1, 2, 3):
            rows = [[("price", 0, 9, 100)]] * many + [[("price", 4, 4, 90)]]
            self.let(rows, (3, 6), ("had", 300, [(3, 6, 0)], [100, 100, 100]), False)
            self.let(rows, (3, 6), ("had", 290, [(3, 4, 0), (4, 5, many), (5, 6, 0)], [100, 90, 100]), True)

    def test_where_there_is_no_cut(self):
        self.let([[]], (3, 5), ("had", 0, [], [0, 0]), False)
        self.let([[]], (3, 5), ("had", 0, [(3, 5, 0)], [0, 0]), False)

    def test_the_greatest_coins(self):
        rules = [("price", 0, 20, COINS), ("fee", 0, 20, COINS)]
        self.let([rules], (0, 14), ("had", 15 * COINS, [(0, 14, 0)], [2 * COINS] + [COINS] * 13), True)
        self.let([rules], (0, 14), ("had", 15 * COINS + 1, [(0, 14, 0)], [2 * COINS + 1] + [COINS] * 13), False)


class Off(Looked):
    # From day 3 one gets to day 4 and 5, and not further.
    RULES = [("price", 3, 4, 10), ("price", 6, 9, 10)]
    STAY = (3, 8)

    def off(self, days, due):
        self.let([self.RULES], self.STAY, ("off", days), due)

    def test_as_it_should_be(self):
        self.off([3, 4, 5], True)
        self.let([self.RULES], self.STAY, best([Book(self.RULES)], self.STAY), True)

    def test_days_less_or_more(self):
        self.off([3, 4], False)
        self.off([3, 5], False)
        self.off([4, 5], False)
        self.off([3], False)
        self.off([], False)
        # Out of day 6 one gets to day 8.
        self.off([3, 4, 5, 6], False)
        self.off([3, 4, 5, 6, 7], False)

    def test_more_days_that_lead_nowhere(self):
        rules = [("price", 3, 4, 10), ("price", 7, 9, 10)]
        for days, due in (([3, 4, 5], True), ([3, 4, 5, 6], True), ([3, 4, 5, 6, 7], False), ([3, 4, 5, 7], False)):
            self.let([rules], (3, 8), ("off", days), due)
        self.let([[]], (3, 6), ("off", [3]), True)
        self.let([[]], (3, 6), ("off", [3, 4]), True)
        self.let([[]], (3, 6), ("off", [3, 5]), True)
        self.let([[]], (3, 6), ("off", [3, 4, 5]), True)

    def test_go_among_them(self):
        self.off([3, 4, 5, 8], False)
        self.let([[]], (3, 6), ("off", [3, 6]), False)
        self.let([[]], (3, 6), ("off", [3, 4, 5, 6]), False)

    def test_come_not_among_them(self):
        self.let([[]], (3, 6), ("off", [4]), False)
        self.let([[]], (3, 6), ("off", [4, 5]), False)

    def test_beyond_the_stay(self):
        for days in ([2, 3], [3, 7], [0, 3], [-1, 3], [3, HUGE], [-HUGE, 3], [3, LAST + 1]):
            self.let([[]], (3, 6), ("off", days), False)

    def test_not_rising(self):
        self.off([3, 5, 4], False)
        self.off([5, 4, 3], False)
        self.off([4, 3, 5], False)
        self.off([3, 3, 4, 5], False)
        self.off([3, 4, 5, 5], False)
        self.off([3, 4, 4, 5], False)
        self.let([[]], (3, 6), ("off", [3, 3]), False)

    def test_kinds(self):
        self.off((3, 4, 5), False)
        self.off([[3, 4, 5]], False)
        self.off([3, 4, "5"], False)
        self.off("345", False)
        self.let([[]], (0, 3), ("off", [0]), True)
        self.let([[]], (0, 3), ("off", [0, 1]), True)
        self.let([[]], (0, 3), ("off", [False]), False)
        self.let([[]], (0, 3), ("off", [0, True]), False)
        for thing in ANY:
            self.off(thing, False)
            self.off([thing], False)
            self.off([3, 4, 5, thing], False)
            self.off([3, thing, 5], False)

    def test_another_word_and_other_lengths(self):
        for word in ("had", "of", "OFF", "off ", "", None, 0, False, ["off"]):
            self.let([self.RULES], self.STAY, (word, [3, 4, 5]), False)
        self.let([self.RULES], self.STAY, ("off", [3, 4, 5], []), False)
        self.let([self.RULES], self.STAY, ("off", [3, 4, 5], [], []), False)
        self.let([self.RULES], self.STAY, ("off",), False)
        self.let([self.RULES], self.STAY, ["off", [3, 4, 5]], False)

    def test_a_part_by_any_of_the_books(self):
        for many in (1, 2, 3):
            rows = [self.RULES] * many + [[("price", 5, 5, 10)]]
            self.let(rows, self.STAY, ("off", [3, 4, 5]), False)
            rows = [self.RULES] * many + [[("price", 5, 5, 10), ("come", 5, 5, False)]]
            self.let(rows, self.STAY, ("off", [3, 4, 5]), True)

    def test_where_there_is_a_cut(self):
        for many in range(5):
            for days in itertools.combinations(range(3, 7), many):
                self.let(ROWS, STAY, ("off", list(days)), False)


class Anything(Looked):
    def test_is_let_by_where_it_is_such_a_thing_alone(self):
        for thing in ANY:
            self.let(ROWS, STAY, thing, False)
            self.let([[]], STAY, thing, thing == ("off", [3]))
            self.let(ROWS, STAY, ("had", thing, CUT, [110, 100, 50, 110]), False)
            self.let(ROWS, STAY, (thing, 370, CUT, [110, 100, 50, 110]), thing == "had")
            self.let([[]], STAY, (thing, [3]), thing == "off")
            self.let([[]], STAY, ("off", thing), thing == [3])


class Scattered(Looked):
    def changed(self, thing, row):
        """The thing with one small change somewhere."""
        if isinstance(thing, (list, tuple)) and thing and next(row) % 8:
            place = next(row) % len(thing)
            parts = list(thing)
            what = next(row) % 5
            if what == 0:
                del parts[place]
            elif what == 1:
                parts.insert(place, thing[next(row) % len(thing)])
            else:
                parts[place] = self.changed(parts[place], row)
            return type(thing)(parts)
        if type(thing) is int:
            return (thing + 1, thing - 1, -thing, bool(thing), str(thing), [thing], 0)[next(row) % 7]
        if isinstance(thing, (list, tuple)):
            return (tuple(thing), list(thing), None, [])[next(row) % 4]
        return ("had", "off", None, thing + " ")[next(row) % 4] if isinstance(thing, str) else None

    def test_what_best_tells_and_what_is_spoilt(self):
        row = numbers(5)
        let = refused = 0
        for seed in range(150):
            begin = (0, LAST - 14)[seed % 2]
            rows = scattered_rows(seed, 1 + seed % 4, 9, begin)
            stay = (begin + seed % 3, begin + seed % 3 + 1 + seed % 6)
            parts = due_parts(rows, stay)
            told = best(books_of(rows), stay)
            self.let(rows, stay, told, True)
            for step in range(12):
                thing = self.changed(told, row)
                due = due_let(parts, stay, thing)
                let += due
                refused += not due
                self.let(rows, stay, thing, due)
                if isinstance(thing, tuple) and len(thing) > 2:
                    self.cut(rows, stay, thing[2], due_cut(parts, stay, thing[2]))
        self.assertGreater(let, 30)
        self.assertGreater(refused, 1000)

    def test_other_papers(self):
        row = numbers(6)
        let = 0
        for seed in range(200):
            rows = scattered_rows(seed, 1 + seed % 3, 9)
            stay = (seed % 3, seed % 3 + 2 + seed % 5)
            told = best(books_of(rows), stay)
            parts = due_parts(rows, stay)
            if told[0] == "had":
                for step in range(8):
                    paper = list(told[3])
                    coins = next(row) % 12
                    paper[next(row) % len(paper)] -= coins
                    paper[next(row) % len(paper)] += coins
                    due = due_had(parts, stay, told[1], told[2], paper)
                    let += due and paper != told[3]
                    self.let(rows, stay, told[:3] + (paper,), due)
        self.assertGreater(let, 50)

    def test_every_cut_with_its_own_coins(self):
        for seed in range(60):
            rows = scattered_rows(seed, 1 + seed % 3, 7)
            stay = (seed % 3, seed % 3 + 3)
            told = best(books_of(rows), stay)
            parts = due_parts(rows, stay)
            for cut in all_cuts(parts, stay[0], stay[1]):
                coins = sum(parts[part] for part in cut)
                self.cut(rows, stay, cut, True)
                self.let(rows, stay, ("had", coins, cut, told[3]), coins == told[1])

    def test_every_list_of_days(self):
        for seed in range(80):
            rows = scattered_rows(seed, 1 + seed % 2, 7)
            stay = (seed % 3, seed % 3 + 4)
            parts = due_parts(rows, stay)
            for many in range(6):
                for days in itertools.combinations(range(stay[0], stay[1] + 1), many):
                    self.let(rows, stay, ("off", list(days)), due_off(parts, stay, list(days)))

    def test_up_to_fourteen_nights(self):
        for seed in range(60):
            rows = scattered_rows(seed, 1 + seed % 4, 16)
            told = best(books_of(rows), (1, 15))
            self.let(rows, (1, 15), told, True)
            if told[0] == "had":
                self.let(rows, (1, 15), ("had", told[1] + 1, told[2], [told[3][0] + 1] + told[3][1:]), False)


if __name__ == "__main__":
    unittest.main()
