"""Days, stretches, stays and lists of stretches: points 4 and 5."""

import copy
import itertools
import unittest

from stayprice.days import has_day, is_day, is_stay, is_stretch, less, nights_of, spread

LAST = 10 ** 6
HUGE = 10 ** 60 - 1
NO_NUMBERS = (
    None, True, False, "", "0", "5", "day", " 5", [], (), [5], (5,), [[5]], ((5,),), [(5, 6)], [[[5]]], (((5,),),),
)
BEYOND = (-1, -2, -14, -LAST, LAST + 1, LAST + 2, 2 * LAST, 10 ** 12, HUGE, -HUGE, 10 ** 59, -(10 ** 59))
WITHIN = (0, 1, 2, 13, 14, 15, 365, 1000, 524288, LAST - 14, LAST - 1, LAST)
NO_PAIRS = NO_NUMBERS + BEYOND + WITHIN + (
    "ab", "35", (3,), (3, 5, 7), (3, 5, None), (3, 5, 5, 7), [3, 5], [(3, 5)], ((3, 5),), ((3, 5), (5, 7)), ([3, 5],),
    ((3,), (5,)), ([3], [5]), (3, [5]), ([3], 5), (3, (5,)), ((3,), 5), ((3, 5), 7), (3, (5, 7)), ((), ()), ([], []),
    (None, None), (3, None), (None, 5), ("3", "5"), (3, "5"), ("3", 5), ("", ""),
    (True, True), (False, False), (False, True), (False, 5), (True, 5), (0, True), (1, True), (0, False),
)


class Truths(unittest.TestCase):
    def yes(self, told, thing):
        self.assertIs(told, True, repr(thing))

    def no(self, told, thing):
        self.assertIs(told, False, repr(thing))


class Days(Truths):
    def test_days(self):
        for thing in WITHIN:
            self.yes(is_day(thing), thing)

    def test_numbers_beyond_the_edges(self):
        for thing in BEYOND:
            self.no(is_day(thing), thing)

    def test_things_that_are_no_whole_numbers(self):
        for thing in NO_NUMBERS + ((3, 5), [3, 5], "ab"):
            self.no(is_day(thing), thing)


class Stretches(Truths):
    def test_stretches(self):
        for first in WITHIN:
            for last in WITHIN:
                told = is_stretch((first, last))
                self.assertIs(told, first <= last, (first, last))

    def test_of_one_day_and_of_all_days(self):
        for pair in ((0, 0), (7, 7), (LAST, LAST), (0, LAST), (0, 1), (LAST - 1, LAST)):
            self.yes(is_stretch(pair), pair)

    def test_the_wrong_way_round(self):
        for pair in ((1, 0), (8, 7), (LAST, 0), (LAST, LAST - 1)):
            self.no(is_stretch(pair), pair)

    def test_days_beyond_the_edges(self):
        for day in BEYOND:
            for pair in ((0, day), (day, LAST), (day, day), (5, day), (day, 5)):
                self.no(is_stretch(pair), pair)

    def test_things_that_are_no_pairs_of_days(self):
        for thing in NO_PAIRS:
            self.no(is_stretch(thing), thing)


class Stays(Truths):
    def test_how_many_nights(self):
        for come in (0, 1, 77, 1000, LAST // 2, LAST - 100):
            for many in range(-20, 40):
                pair = (come, come + many)
                self.assertIs(is_stay(pair), come + many >= 0 and 1 <= many <= 14, pair)

    def test_at_the_last_days(self):
        for many in range(1, 15):
            self.yes(is_stay((LAST - many, LAST)), many)
            self.no(is_stay((LAST - many + 1, LAST + 1)), many)
            self.no(is_stay((LAST, LAST + many)), many)
        self.no(is_stay((LAST, LAST)), LAST)
        self.no(is_stay((LAST - 15, LAST)), LAST)

    def test_at_the_first_days(self):
        for many in range(1, 15):
            self.yes(is_stay((0, many)), many)
            self.no(is_stay((-1, many - 1)), many)
        self.no(is_stay((0, 0)), 0)
        self.no(is_stay((0, 15)), 15)

    def test_the_wrong_way_round(self):
        for pair in ((1, 0), (5, 3), (14, 0), (LAST, LAST - 1)):
            self.no(is_stay(pair), pair)

    def test_far_apart(self):
        for pair in ((0, LAST), (HUGE - 3, HUGE), (-HUGE, 3 - HUGE), (-HUGE, HUGE), (3, HUGE), (-HUGE, 3)):
            self.no(is_stay(pair), pair)

    def test_things_that_are_no_pairs_of_days(self):
        for thing in NO_PAIRS:
            self.no(is_stay(thing), thing)

    def test_what_is_handed_in_is_not_changed(self):
        for thing in ([3, 5], [[3, 5], [7]], ([3], [5]), [3, [5, [7]]]):
            handed = copy.deepcopy(thing)
            for asked in (is_day, is_stretch, is_stay):
                self.no(asked(handed), thing)
            self.assertEqual(repr(handed), repr(thing))


class Nights(unittest.TestCase):
    def test_stays_of_each_length(self):
        for many in range(1, 15):
            for come in (0, 1, 30, 999, LAST - many - 1, LAST - many):
                told = nights_of((come, come + many))
                self.assertIs(type(told), list)
                self.assertEqual(repr(told), repr([come + step for step in range(many)]))

    def test_as_written(self):
        self.assertEqual(nights_of((3, 4)), [3])
        self.assertEqual(nights_of((3, 6)), [3, 4, 5])
        self.assertEqual(nights_of((LAST - 1, LAST)), [LAST - 1])

    def test_a_new_list_each_time(self):
        for stay in ((3, 4), (3, 6), (0, 14)):
            one = nights_of(stay)
            kept = list(one)
            one.append(99)
            one[0] = None
            other = nights_of(stay)
            self.assertEqual(other, kept)
            self.assertIsNot(one, other)


SMALL_DAYS = range(0, 6)
SMALL = [(first, last) for first in SMALL_DAYS for last in SMALL_DAYS if first <= last]
WRITTEN = (
    ([], []),
    ([(3, 3)], [(3, 3)]),
    ([(0, LAST)], [(0, LAST)]),
    ([(3, 9), (3, 9)], [(3, 9)]),
    ([(4, 6), (1, 3)], [(1, 6)]),
    ([(1, 3), (5, 6)], [(1, 3), (5, 6)]),
    ([(5, 6), (1, 3)], [(1, 3), (5, 6)]),
    ([(1, 9), (3, 4)], [(1, 9)]),
    ([(1, 9), (3, 4), (10, 10), (12, 12), (6, 11)], [(1, 12)]),
    ([(1, 9), (3, 4), (6, 7), (11, 11)], [(1, 9), (11, 11)]),
    ([(0, 0), (LAST, LAST)], [(0, 0), (LAST, LAST)]),
    ([(LAST, LAST), (0, 0), (1, LAST - 1)], [(0, LAST)]),
    ([(LAST - 1, LAST - 1), (LAST, LAST)], [(LAST - 1, LAST)]),
    ([(0, LAST), (0, 0), (LAST, LAST)], [(0, LAST)]),
    ([(20, 30), (10, 15), (12, 25), (40, 50)], [(10, 30), (40, 50)]),
)
LESS = (
    ([], [], []),
    ([], [(0, LAST)], []),
    ([(3, 9)], [], [(3, 9)]),
    ([(7, 9), (3, 6)], [], [(3, 9)]),
    ([(3, 9)], [(3, 9)], []),
    ([(3, 9)], [(5, 6)], [(3, 4), (7, 9)]),
    ([(3, 9)], [(5, 6), (5, 6)], [(3, 4), (7, 9)]),
    ([(3, 9)], [(6, 6), (5, 5)], [(3, 4), (7, 9)]),
    ([(3, 9)], [(3, 3)], [(4, 9)]),
    ([(3, 9)], [(9, 9)], [(3, 8)]),
    ([(3, 9)], [(0, 2), (10, 20)], [(3, 9)]),
    ([(3, 9)], [(0, 3), (9, 20)], [(4, 8)]),
    ([(3, 9)], [(0, 20)], []),
    ([(0, LAST)], [(0, 0), (LAST, LAST)], [(1, LAST - 1)]),
    ([(0, LAST)], [(1, LAST - 1)], [(0, 0), (LAST, LAST)]),
    ([(0, LAST)], [(0, LAST)], []),
    ([(0, LAST)], [(500, 500)], [(0, 499), (501, LAST)]),
    ([(1, 3), (5, 7), (9, 11)], [(2, 10)], [(1, 1), (11, 11)]),
    ([(1, 3), (2, 8)], [(4, 4), (6, 6)], [(1, 3), (5, 5), (7, 8)]),
    ([(9, 11), (1, 3)], [(11, 11), (1, 1)], [(2, 3), (9, 10)]),
)


def days_of(stretches):
    return {day for first, last in stretches for day in range(first, last + 1)}


def stretches_of(days):
    told = []
    for day in sorted(days):
        if told and told[-1][1] == day - 1:
            told[-1] = (told[-1][0], day)
        else:
            told.append((day, day))
    return told


def long_lists():
    # Lists of up to 32 stretches, scattered by plain sums over 0 to 210.
    for seed in range(1, 120):
        many = seed % 33
        firsts = [(step * step * seed + 7 * step * (seed % 5) + seed) % 199 for step in range(many)]
        yield [(first, first + (first * seed + step) % (1 + seed % 9)) for step, first in enumerate(firsts)]


class Lists(unittest.TestCase):
    def same(self, told, due, handed):
        self.assertIs(type(told), list, handed)
        self.assertEqual(repr(told), repr(due), handed)


class Spread(Lists):
    def test_as_written(self):
        for handed, due in WRITTEN:
            for order in itertools.islice(itertools.permutations(handed), 24):
                self.same(spread(list(order)), due, order)

    def test_every_small_list(self):
        for many in range(0, 4):
            for handed in itertools.product(SMALL, repeat=many):
                self.same(spread(list(handed)), stretches_of(days_of(handed)), handed)

    def test_long_lists(self):
        for handed in long_lists():
            self.same(spread(handed), stretches_of(days_of(handed)), handed)

    def test_what_is_told_is_spread(self):
        for handed in long_lists():
            told = spread(handed)
            for one, other in zip(told, told[1:]):
                self.assertLess(one[1] + 1, other[0])
                self.assertFalse(has_day(handed, one[1] + 1))
            self.same(spread(told), told, handed)

    def test_what_is_handed_in_is_not_changed(self):
        for handed in [pair[0] for pair in WRITTEN] + list(long_lists()):
            kept = list(handed)
            spread(handed)
            self.assertEqual(repr(handed), repr(kept))

    def test_what_is_told_is_the_askers_own(self):
        for handed, due in WRITTEN:
            handed = list(handed)
            kept = list(handed)
            told = spread(handed)
            self.assertIsNot(told, handed)
            told.append((77, 78))
            told[0] = None
            self.assertEqual(handed, kept)
            self.same(spread(handed), due, handed)

    def test_a_told_list_stays_when_what_was_handed_in_is_changed(self):
        handed = [(3, 4), (8, 9)]
        told = spread(handed)
        handed.append((5, 7))
        handed[0] = (0, 0)
        self.assertEqual(told, [(3, 4), (8, 9)])


class Less(Lists):
    def test_as_written(self):
        for handed, others, due in LESS:
            self.same(less(handed, others), due, (handed, others))
            self.same(less(handed[::-1], others[::-1]), due, (handed, others))

    def test_every_small_list(self):
        lists = [list(handed) for many in range(0, 3) for handed in itertools.product(SMALL, repeat=many)]
        sets = [frozenset(days_of(handed)) for handed in lists]
        due = {}
        for handed, one in zip(lists, sets):
            for others, other in zip(lists, sets):
                rest = one - other
                if rest not in due:
                    due[rest] = repr(stretches_of(rest))
                if repr(less(handed, others)) != due[rest]:
                    self.same(less(handed, others), stretches_of(rest), (handed, others))

    def test_long_lists(self):
        lists = list(long_lists())
        for handed, others in zip(lists, lists[7:] + lists[:7]):
            due = stretches_of(days_of(handed) - days_of(others))
            self.same(less(handed, others), due, (handed, others))

    def test_a_list_less_nothing_and_less_itself(self):
        for handed in long_lists():
            self.same(less(handed, []), spread(handed), handed)
            self.same(less(handed, handed), [], handed)
            self.same(less([], handed), [], handed)
            self.same(less(handed, [(0, LAST)]), [], handed)

    def test_what_is_handed_in_is_not_changed(self):
        for handed, others, due in LESS:
            kept = (list(handed), list(others))
            less(handed, others)
            self.assertEqual(repr((handed, others)), repr(kept))

    def test_what_is_told_is_the_askers_own(self):
        for handed, others, due in LESS:
            kept = (list(handed), list(others))
            told = less(handed, others)
            self.assertIsNot(told, handed)
            self.assertIsNot(told, others)
            told.append((77, 78))
            told[0] = None
            self.assertEqual((handed, others), kept)
            self.same(less(handed, others), due, handed)

    def test_a_told_list_stays_when_what_was_handed_in_is_changed(self):
        handed = [(3, 4), (8, 9)]
        others = []
        told = less(handed, others)
        handed[0] = (0, 0)
        others.append((0, LAST))
        self.assertEqual(told, [(3, 4), (8, 9)])


class HasDay(Truths):
    def test_no_stretch_has_no_day(self):
        for day in (0, 1, 500, LAST):
            self.no(has_day([], day), day)

    def test_one_stretch(self):
        for day, due in ((0, False), (2, False), (3, True), (6, True), (9, True), (10, False), (LAST, False)):
            self.assertIs(has_day([(3, 9)], day), due, day)
        self.yes(has_day([(4, 4)], 4), 4)
        self.no(has_day([(4, 4)], 3), 3)
        self.no(has_day([(4, 4)], 5), 5)

    def test_the_ends_of_all_days(self):
        for day in (0, 1, LAST - 1, LAST):
            self.yes(has_day([(0, LAST)], day), day)
            self.assertIs(has_day([(0, 0), (LAST, LAST)], day), day in (0, LAST), day)

    def test_every_small_list(self):
        for many in range(0, 4):
            for handed in itertools.product(SMALL, repeat=many):
                days = days_of(handed)
                for day in range(0, 8):
                    self.assertIs(has_day(list(handed), day), day in days, (handed, day))

    def test_long_lists(self):
        for handed in long_lists():
            days = days_of(handed)
            for day in range(0, 215):
                self.assertIs(has_day(handed, day), day in days, (handed, day))

    def test_what_is_handed_in_is_not_changed(self):
        handed = [(5, 7), (1, 2), (6, 9), (1, 2)]
        for day in (0, 1, 4, 9, LAST):
            has_day(handed, day)
        self.assertEqual(handed, [(5, 7), (1, 2), (6, 9), (1, 2)])


if __name__ == "__main__":
    unittest.main()
