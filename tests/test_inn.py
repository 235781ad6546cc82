"""The inn: points 25, 26, 27 and 28, and 2 and 3 for it."""

import copy
import itertools
import unittest

from scattered import (
    HUGE, LAST, NO_RULES, SHORT, WORDS, BestTold, alike, due_parts, due_worth, numbers, scattered_rows, scattered_rules,
)
from stayprice.books import Book
from stayprice.errors import NoDeed, NoName, NoRule, NoTaken, Off, TooMany
from stayprice.inn import Inn
from stayprice.tidying import tidied

SOLD = ("price", 0, LAST, 100)
NAMES = ("a", "main", "late", "abcdefgh")


def parts_beside(rows, full, stay):
    """The parts of the stay that have no full night."""
    parts = due_parts(rows, stay)
    return {part: parts[part] for part in parts if not set(range(part[0], part[1])) & set(full)}


def due_full(rooms, stays):
    nights = [night for stay in stays for night in range(stay[0], stay[1])]
    return sorted(set(night for night in nights if nights.count(night) == rooms))


class Inns(BestTold):
    def refused(self, refusal, ask, *handed):
        with self.assertRaises(refusal) as taken:
            ask(*handed)
        self.assertIs(type(taken.exception), refusal)
        return taken.exception

    def state(self, inn, names):
        """All that can be asked of the inn without changing it."""
        rows = [inn.rules_of(name) for name in names]
        return copy.deepcopy((inn.standing(), inn.full(), inn.rooms(), rows))


class Made(Inns):
    def test_its_rules(self):
        for many in (1, 2, 3, 4):
            books = [(NAMES[place], [("fee", place, 9, 5), SOLD]) for place in range(many)]
            inn = Inn(3, books)
            for name, rules in books:
                self.same(inn.rules_of(name), rules)
            self.same((inn.standing(), inn.full(), inn.rooms()), ([], [], []))

    def test_names_of_one_and_of_eight_letters(self):
        inn = Inn(1, [("z", [SOLD]), ("abcdefgh", [])])
        self.same(inn.rules_of("z"), [SOLD])
        self.same(inn.rules_of("abcdefgh"), [])
        for name in ("", "a", "zz", "abcdefg", "abcdefgi", "Z", "z ", " z", "*", "z;", "12345678", "        "):
            self.refused(NoName, inn.rules_of, name)

    def test_things_that_are_no_rules(self):
        for thing in NO_RULES:
            for place in range(3):
                rules = [SOLD] * place + [thing] + [SOLD] + [thing]
                self.same(self.refused(NoRule, Inn, 1, [("main", rules)]).number, place)
                self.same(self.refused(NoRule, Inn, 9, [("main", [SOLD]), ("late", rules)]).number, place)
                self.same(self.refused(NoRule, Inn, 9, [("main", []), ("late", []), ("x", rules)]).number, place)

    def test_more_than_twenty_four_rules(self):
        for many in (25, 26, 32):
            self.refused(TooMany, Inn, 1, [("main", alike(many))])
            self.refused(TooMany, Inn, 1, [("main", []), ("late", alike(many))])
        inn = Inn(1, [("main", alike(24)), ("late", alike(24))])
        self.same(inn.rules_of("late"), alike(24))

    def test_the_books_in_their_order(self):
        wrong = [SOLD, None]
        self.refused(TooMany, Inn, 1, [("main", alike(25)), ("late", wrong)])
        self.same(self.refused(NoRule, Inn, 1, [("main", wrong), ("late", alike(25))]).number, 1)
        self.same(self.refused(NoRule, Inn, 1, [("main", [None]), ("late", wrong)]).number, 0)
        self.same(self.refused(NoRule, Inn, 1, [("main", alike(28) + [7])]).number, 28)

    def test_what_is_handed_in_is_kept_as_a_copy(self):
        rules = [SOLD]
        books = [("main", rules), ("late", [])]
        inn = Inn(1, books)
        rules.append(("fee", 0, 9, 5))
        books.clear()
        self.same(inn.rules_of("main"), [SOLD])
        self.same(inn.rules_of("late"), [])
        handed = [("fee", 0, 9, 5)]
        inn.lay("late", handed)
        handed.clear()
        self.same(inn.rules_of("late"), [("fee", 0, 9, 5)])

    def test_nothing_that_is_handed_in_is_changed(self):
        books = [("main", [SOLD]), ("late", [])]
        inn = Inn(1, books)
        inn.lay("late", [SOLD])
        inn.tidy("main")
        inn.take((3, 6))
        self.same(books, [("main", [SOLD]), ("late", [])])

    def test_two_inns_have_nothing_in_common(self):
        books = [("main", [SOLD])]
        one = Inn(1, books)
        other = Inn(1, books)
        one.take((3, 6))
        one.lay("main", [("fee", 0, 9, 5)])
        self.same(self.state(other, ["main"]), ([], [], [], [[SOLD]]))
        self.refused(NoDeed, other.undo)


class Best(Inns):
    def held(self, rooms, rows, stays, stay):
        """The best beside what was taken, held against every part without a full night."""
        inn = Inn(rooms, list(zip(NAMES, rows)))
        for taken in stays:
            inn.take(taken)
        full = due_full(rooms, stays)
        self.same(inn.full(), full)
        told = inn.best(stay)
        due = self.is_best(told, parts_beside(rows, full, stay), stay, (rooms, rows, stays, stay, told))
        self.same(inn.best(stay), told)
        self.same([inn.rules_of(name) for name, rules in zip(NAMES, rows)], rows)
        return due

    def test_without_stays(self):
        for seed in range(40):
            rows = scattered_rows(seed, 1 + seed % 4, 9)
            self.held(1 + seed % 9, rows, [], (seed % 3, seed % 3 + 1 + seed % 6))

    def test_one_room(self):
        self.assertEqual(self.held(1, [[SOLD]], [(3, 6)], (6, 8)), 200)
        self.assertEqual(self.held(1, [[SOLD]], [(3, 6)], (1, 3)), 200)
        for stay in ((3, 6), (4, 5), (1, 4), (5, 8), (2, 9)):
            self.assertIsNone(self.held(1, [[SOLD]], [(3, 6)], stay))

    def test_nine_rooms(self):
        for many in range(9):
            self.assertEqual(self.held(9, [[SOLD]], [(3, 6)] * many, (3, 6)), 300)
        self.assertIsNone(self.held(9, [[SOLD]], [(3, 6)] * 9, (5, 8)))
        self.assertEqual(self.held(9, [[SOLD]], [(3, 6)] * 9, (6, 8)), 200)
        self.assertEqual(self.held(9, [[SOLD]], [(3, 6)] * 8 + [(6, 9)], (3, 9)), 600)

    def test_two_rooms(self):
        stays = [(3, 6), (5, 8)]
        self.assertIsNone(self.held(2, [[SOLD]], stays, (5, 6)))
        self.assertIsNone(self.held(2, [[SOLD]], stays, (3, 6)))
        self.assertEqual(self.held(2, [[SOLD]], stays, (3, 5)), 200)
        self.assertEqual(self.held(2, [[SOLD]], stays, (6, 9)), 300)

    def test_by_none_of_the_books(self):
        for many in (1, 2, 3, 4):
            self.assertIsNone(self.held(1, [[SOLD]] * many, [(4, 5)], (3, 6)))
            self.assertEqual(self.held(1, [[SOLD]] * many, [(4, 5)], (5, 6)), 100)

    def test_books_of_twenty_four_rules(self):
        for many in (1, 2, 4):
            rules = [SOLD] + [("fee", day, day, day) for day in range(23)]
            self.assertEqual(self.held(1, [rules] * many, [], (3, 6)), 303)
            self.assertIsNone(self.held(1, [rules] * many, [(4, 5)], (3, 6)))
            self.assertIsNone(self.held(1, [rules] * many, [(4, 5), (2, 4)], (3, 6)))
            self.assertEqual(self.held(1, [rules] * many, [(4, 5)], (5, 7)), 205)

    def test_a_full_night_is_not_free_by_a_deal(self):
        rules = [SOLD, ("deal", 0, 20, (2, 1))]
        self.assertIsNone(self.held(1, [rules], [(4, 5)], (3, 5)))

    def test_at_day_nought_and_at_the_last_days(self):
        self.assertIsNone(self.held(1, [[SOLD]], [(0, 1)], (0, 3)))
        self.assertEqual(self.held(1, [[SOLD]], [(0, 1)], (1, 3)), 200)
        self.assertIsNone(self.held(1, [[SOLD]], [(LAST - 1, LAST)], (LAST - 3, LAST)))
        self.assertEqual(self.held(1, [[SOLD]], [(LAST - 1, LAST)], (LAST - 3, LAST - 1)), 200)

    def test_scattered_books(self):
        had = off = 0
        for seed in range(100):
            row = numbers(seed)
            rows = [[SOLD] + rules for rules in scattered_rows(seed, 1 + seed % 4, 12)]
            inn = Inn(1 + seed % 3, list(zip(NAMES, rows)))
            stays = []
            for step in range(6):
                come = next(row) % 8
                stay = (come, come + 1 + next(row) % 4)
                if inn.best(stay)[0] == "had":
                    inn.take(stay)
                    stays.append(stay)
            due = self.held(1 + seed % 3, rows, stays, (seed % 3, seed % 3 + 1 + seed % 8))
            had += due is not None
            off += due is None
        self.assertGreater(had, 20)
        self.assertGreater(off, 20)

    def test_it_is_the_askers_own(self):
        inn = Inn(1, [("main", [SOLD])])
        # The first time it is had, the second time it is off.
        for step in range(2):
            due = repr(inn.best((3, 6)))
            for thing in inn.best((3, 6)):
                if isinstance(thing, list):
                    thing.clear()
            self.assertEqual(repr(inn.best((3, 6))), due)
            told = inn.best((3, 6))
            if told[0] == "had":
                inn.take((3, 6))
                self.assertEqual(repr(told), due)


class Taken(Inns):
    def setUp(self):
        self.inn = Inn(2, [("main", [SOLD, ("fee", 0, 99, 10), ("most", 0, 99, 2)]), ("late", [("price", 5, 5, 40)])])

    def test_with_the_next_number_its_coins_and_cut(self):
        self.same(self.inn.take((3, 6)), 0)
        self.same(self.inn.take((5, 6)), 1)
        self.same(self.inn.take((20, 22)), 2)
        self.same(self.inn.standing(), [
            (0, (3, 6), 250, [(3, 5, 0), (5, 6, 1)]), (1, (5, 6), 40, [(5, 6, 1)]), (2, (20, 22), 210, [(20, 22, 0)]),
        ])
        self.same(self.inn.full(), [5])

    def test_as_best_tells_it(self):
        for seed in range(60):
            rows = [[SOLD] + rules for rules in scattered_rows(seed, 1 + seed % 4, 12)]
            inn = Inn(2, list(zip(NAMES, rows)))
            number = 0
            for come, many in itertools.product((1, 2, 4), (1, 3)):
                told = inn.best((come, come + many))
                if told[0] == "had":
                    self.same(inn.take((come, come + many)), number)
                    self.same(inn.standing()[-1], (number, (come, come + many), told[1], told[2]))
                    number += 1
                else:
                    self.same(self.refused(Off, inn.take, (come, come + many)).days, told[1])

    def test_refused_with_the_days(self):
        self.inn.take((3, 6))
        self.inn.take((5, 6))
        before = self.state(self.inn, ["main", "late"])
        refusal = self.refused(Off, self.inn.take, (4, 7))
        self.assertIs(type(refusal.days), list)
        self.same(("off", refusal.days), self.inn.best((4, 7)))
        self.same(refusal.days, [4, 5])
        self.same(self.state(self.inn, ["main", "late"]), before)
        self.same(self.inn.take((20, 21)), 2)

    def test_the_days_are_the_askers_own(self):
        inn = Inn(1, [("main", [])])
        refusal = self.refused(Off, inn.take, (3, 6))
        self.same(refusal.days, [3])
        refusal.days.append(7)
        self.same(self.refused(Off, inn.take, (3, 6)).days, [3])

    def test_it_stands_as_it_was_told_whatever_is_laid_later(self):
        self.inn.take((3, 6))
        due = [(0, (3, 6), 250, [(3, 5, 0), (5, 6, 1)])]
        self.inn.lay("main", [("price", 0, 99, None)])
        self.same(self.inn.standing(), due)
        self.inn.lay("late", [("price", 0, 99, 1), ("come", 0, 99, False)])
        self.inn.tidy("main")
        self.same(self.inn.standing(), due)
        self.refused(Off, self.inn.take, (3, 6))
        self.same(self.inn.standing(), due)
        self.same(self.inn.rooms(), [(0, 0)])

    def test_what_is_laid_later_holds_for_the_next(self):
        self.inn.lay("late", [("price", 3, 5, 1)])
        self.inn.take((3, 6))
        self.same(self.inn.standing(), [(0, (3, 6), 3, [(3, 6, 1)])])

    def test_standing_is_the_askers_own(self):
        self.inn.take((3, 6))
        due = [(0, (3, 6), 250, [(3, 5, 0), (5, 6, 1)])]
        told = self.inn.standing()
        told[0][3].clear()
        told.clear()
        self.same(self.inn.standing(), due)
        told = self.inn.standing()
        self.inn.give_back(0)
        self.same(told, due)
        self.inn.undo()
        told[0][3].append(None)
        self.same(self.inn.standing(), due)
        self.inn.take((20, 21))
        self.inn.undo()
        self.same(self.inn.standing(), due)

    def test_full_and_rooms_are_the_askers_own(self):
        self.inn.take((3, 6))
        self.inn.take((3, 5))
        full = self.inn.full()
        rooms = self.inn.rooms()
        self.inn.full().clear()
        self.inn.rooms().clear()
        self.inn.give_back(0)
        self.same(full, [3, 4])
        self.same([number for number, room in rooms], [0, 1])
        self.inn.undo()
        self.same(self.inn.full(), [3, 4])
        self.same(self.inn.rooms(), rooms)


class GivenBack(Inns):
    def setUp(self):
        self.inn = Inn(1, [("main", [SOLD])])

    def test_by_a_number_that_stands(self):
        self.inn.take((3, 6))
        self.inn.take((6, 8))
        self.inn.take((1, 3))
        self.same(self.inn.give_back(1), None)
        self.same([entry[:2] for entry in self.inn.standing()], [(0, (3, 6)), (2, (1, 3))])
        self.same(self.inn.full(), [1, 2, 3, 4, 5])
        self.same(self.inn.rooms(), [(0, 0), (2, 0)])
        self.same(self.inn.take((6, 7)), 3)

    def test_by_one_that_never_stood(self):
        for number in (0, 1, -1, HUGE, -HUGE):
            self.refused(NoTaken, self.inn.give_back, number)
        self.inn.take((3, 6))
        for number in (1, 2, -1, HUGE, -HUGE):
            self.refused(NoTaken, self.inn.give_back, number)
        self.assertEqual(len(self.inn.standing()), 1)

    def test_by_one_that_was_given_back_already(self):
        self.inn.take((3, 6))
        self.inn.give_back(0)
        self.refused(NoTaken, self.inn.give_back, 0)
        self.same(self.inn.standing(), [])

    def test_no_number_is_given_twice(self):
        for number in range(5):
            self.same(self.inn.take((3, 6)), number)
            self.inn.give_back(number)
            for other in range(number + 1):
                self.refused(NoTaken, self.inn.give_back, other)
        self.same(self.inn.take((3, 6)), 5)

    def test_the_nights_are_free_again(self):
        self.inn.take((3, 6))
        self.refused(Off, self.inn.take, (4, 5))
        self.inn.give_back(0)
        self.same(self.inn.full(), [])
        self.same(self.inn.take((4, 5)), 1)


class Laid(Inns):
    def setUp(self):
        self.inn = Inn(1, [("main", [SOLD]), ("late", [("fee", 0, 9, 5)])])

    def test_over_the_book_of_the_name(self):
        self.same(self.inn.lay("main", [("price", 3, 4, 1), ("fee", 0, 1, 2)]), None)
        self.same(self.inn.rules_of("main"), [SOLD, ("price", 3, 4, 1), ("fee", 0, 1, 2)])
        self.same(self.inn.rules_of("late"), [("fee", 0, 9, 5)])
        self.same(self.inn.lay("late", []), None)
        self.same(self.inn.rules_of("late"), [("fee", 0, 9, 5)])
        self.assertEqual(self.inn.best((3, 4))[1], 1)

    def test_by_another_name(self):
        before = self.state(self.inn, ["main", "late"])
        for name in ("", "x", "mai", "mainx", "Main", "main ", " main", "abcdefgh", "latemain", "1", "~!", "; ; ; ;"):
            self.refused(NoName, self.inn.lay, name, [SOLD])
            self.refused(NoName, self.inn.lay, name, [None])
            self.refused(NoName, self.inn.lay, name, alike(25))
            self.refused(NoName, self.inn.tidy, name)
            self.refused(NoName, self.inn.rules_of, name)
        self.same(self.state(self.inn, ["main", "late"]), before)
        self.refused(NoDeed, self.inn.undo)

    def test_with_a_thing_that_is_no_rule(self):
        for thing in NO_RULES:
            for place in range(3):
                rules = [SOLD] * place + [thing, SOLD, thing]
                self.same(self.refused(NoRule, self.inn.lay, "late", rules).number, place)
        self.same(self.refused(NoRule, self.inn.lay, "late", alike(31) + [7]).number, 31)
        self.same(self.inn.rules_of("late"), [("fee", 0, 9, 5)])
        self.refused(NoDeed, self.inn.undo)

    def test_with_too_many(self):
        self.refused(TooMany, self.inn.lay, "main", alike(24))
        self.refused(TooMany, self.inn.lay, "main", alike(25))
        self.same(self.inn.rules_of("main"), [SOLD])
        self.inn.lay("main", alike(23))
        self.same(self.inn.rules_of("main"), [SOLD] + alike(23))
        self.refused(TooMany, self.inn.lay, "main", [SOLD])
        self.same(self.inn.lay("main", []), None)
        # What is no rule goes first, though there would be too many.
        self.same(self.refused(NoRule, self.inn.lay, "main", [SOLD, None]).number, 1)

    def test_the_rules_are_the_askers_own(self):
        told = self.inn.rules_of("main")
        told.clear()
        self.same(self.inn.rules_of("main"), [SOLD])
        told = self.inn.rules_of("main")
        self.inn.lay("main", [SOLD])
        self.same(told, [SOLD])


class Tidied(Inns):
    def test_a_tidied_book_takes_its_place(self):
        rules = [SOLD, ("price", 3, 4, 1), ("price", 3, 4, 2), ("come", 0, 9, True), SOLD, ("fee", 1, 1, 1)]
        inn = Inn(1, [("main", rules), ("late", rules)])
        self.same(inn.tidy("late"), None)
        self.same(inn.rules_of("late"), tidied(Book(rules)).rules())
        self.assertEqual(len(inn.rules_of("late")), 2)
        self.same(inn.rules_of("main"), rules)
        self.same(inn.tidy("late"), None)
        self.assertEqual(len(inn.rules_of("late")), 2)

    def test_it_makes_room_for_other_rules(self):
        inn = Inn(1, [("main", [SOLD] * 24)])
        self.refused(TooMany, inn.lay, "main", [("fee", 0, 9, 5)])
        inn.tidy("main")
        inn.lay("main", [("fee", 0, 9, 5)])
        self.same(inn.rules_of("main"), [SOLD, ("fee", 0, 9, 5)])

    def test_it_tells_the_same(self):
        for seed in range(30):
            rules = scattered_rules(seed, 24, 12, 0, WORDS, SHORT)
            inn = Inn(1, [("main", rules)])
            inn.tidy("main")
            for word in WORDS:
                for day in range(13):
                    self.same(due_worth(inn.rules_of("main"), word, day), due_worth(rules, word, day))


class Undone(Inns):
    def setUp(self):
        self.inn = Inn(2, [("main", [SOLD, SOLD]), ("late", [])])

    def undone(self, deed, *handed):
        before = self.state(self.inn, ["main", "late"])
        deed(*handed)
        self.assertNotEqual(self.state(self.inn, ["main", "late"]), before)
        self.same(self.inn.undo(), None)
        self.same(self.state(self.inn, ["main", "late"]), before)

    def test_each_deed(self):
        self.undone(self.inn.take, (3, 6))
        self.undone(self.inn.lay, "late", [SOLD])
        self.undone(self.inn.tidy, "main")
        self.refused(NoDeed, self.inn.undo)
        self.inn.take((3, 6))
        self.undone(self.inn.give_back, 0)
        self.undone(self.inn.take, (3, 6))
        self.undone(self.inn.lay, "main", [("price", 3, 5, None)])
        self.inn.undo()
        self.refused(NoDeed, self.inn.undo)

    def test_no_deed(self):
        for step in range(3):
            self.refused(NoDeed, self.inn.undo)
        self.inn.take((3, 6))
        self.inn.undo()
        self.refused(NoDeed, self.inn.undo)

    def test_the_next_number_too(self):
        self.same(self.inn.take((3, 6)), 0)
        self.inn.undo()
        self.same(self.inn.take((7, 8)), 0)
        self.same(self.inn.take((9, 10)), 1)
        self.inn.give_back(1)
        self.same(self.inn.take((3, 6)), 2)
        self.inn.undo()
        self.inn.undo()
        self.same(self.inn.take((3, 6)), 2)
        self.inn.undo()
        self.inn.undo()
        self.same(self.inn.take((3, 6)), 1)

    def test_what_is_taken_after_undoing_can_be_undone(self):
        self.inn.take((3, 6))
        self.inn.undo()
        self.inn.take((7, 8))
        self.inn.undo()
        self.refused(NoDeed, self.inn.undo)

    def test_a_refused_deed_is_none(self):
        self.inn.take((3, 6))
        self.inn.take((3, 6))
        self.refused(Off, self.inn.take, (3, 6))
        self.refused(NoTaken, self.inn.give_back, 7)
        self.refused(NoName, self.inn.lay, "x", [])
        self.refused(NoRule, self.inn.lay, "main", [None])
        self.refused(TooMany, self.inn.lay, "main", alike(24))
        self.refused(NoName, self.inn.tidy, "x")
        self.inn.undo()
        self.assertEqual(len(self.inn.standing()), 1)
        self.inn.undo()
        self.refused(NoDeed, self.inn.undo)
        self.same(self.inn.standing(), [])

    def test_a_deed_that_changes_nothing_is_one(self):
        self.inn.take((3, 6))
        self.inn.tidy("late")
        self.inn.lay("main", [])
        self.inn.undo()
        self.inn.undo()
        self.assertEqual(len(self.inn.standing()), 1)
        self.inn.undo()
        self.same(self.inn.standing(), [])
        self.refused(NoDeed, self.inn.undo)

    def test_asking_is_no_deed(self):
        self.inn.take((3, 6))
        self.inn.best((3, 6))
        self.state(self.inn, ["main", "late"])
        self.inn.undo()
        self.same(self.inn.standing(), [])


class Rooms(Inns):
    def test_none(self):
        self.same(Inn(3, [("main", [SOLD])]).rooms(), [])

    def test_one_room(self):
        inn = Inn(1, [("main", [SOLD])])
        for come in (6, 0, 3, 9):
            inn.take((come, come + 3))
        self.same(inn.rooms(), [(0, 0), (1, 0), (2, 0), (3, 0)])

    def test_no_two_with_a_night_in_common(self):
        for rooms in range(1, 10):
            inn = Inn(rooms, [("main", [SOLD])])
            row = numbers(rooms)
            for step in range(25):
                come = next(row) % 12
                stay = (come, come + 1 + next(row) % 5)
                if inn.best(stay)[0] == "had":
                    inn.take(stay)
                if next(row) % 4 == 0 and inn.standing():
                    inn.give_back(inn.standing()[next(row) % len(inn.standing())][0])
                self.are_dealt(inn, rooms)

    def are_dealt(self, inn, rooms):
        standing = inn.standing()
        told = inn.rooms()
        self.assertIs(type(told), list)
        self.assertEqual([number for number, room in told], [entry[0] for entry in standing])
        self.assertTrue(all(type(pair) is tuple and 0 <= pair[1] < rooms for pair in told), told)
        for one, other in itertools.combinations(range(len(told)), 2):
            first, second = standing[one][1], standing[other][1]
            if max(first[0], second[0]) < min(first[1], second[1]):
                self.assertNotEqual(told[one][1], told[other][1])
        self.same(inn.rooms(), told)


class Model:
    """What the document says of the deeds, with plain lists; undoing brings back a copy."""

    def __init__(self, rooms, rows):
        self.rooms = rooms
        self.now = {"rows": [list(rules) for rules in rows], "standing": [], "following": 0}
        self.past = []

    def deed(self):
        self.past.append(copy.deepcopy(self.now))

    def full(self):
        return due_full(self.rooms, [entry[1] for entry in self.now["standing"]])


class Scattered(Inns):
    def step(self, inn, model, row):
        what = next(row) % 8
        now = model.now
        if what < 3:
            come = next(row) % 9
            self.take(inn, model, (come, come + 1 + next(row) % 5))
        elif what == 3:
            number = next(row) % (now["following"] + 2)
            left = [entry for entry in now["standing"] if entry[0] != number]
            if len(left) == len(now["standing"]):
                self.refused(NoTaken, inn.give_back, number)
            else:
                model.deed()
                self.same(inn.give_back(number), None)
                now["standing"] = left
        elif what == 4:
            place = next(row) % len(now["rows"])
            rules = scattered_rules(next(row) % 1000, next(row) % 3, 12, 0, WORDS, SHORT)
            model.deed()
            self.same(inn.lay(NAMES[place], rules), None)
            now["rows"][place] = now["rows"][place] + rules
        elif what == 5:
            place = next(row) % len(now["rows"])
            model.deed()
            self.same(inn.tidy(NAMES[place]), None)
            now["rows"][place] = tidied(Book(now["rows"][place])).rules()
        elif model.past:
            self.same(inn.undo(), None)
            model.now = model.past.pop()
        else:
            self.refused(NoDeed, inn.undo)

    def take(self, inn, model, stay):
        now = model.now
        told = inn.best(stay)
        parts = parts_beside(now["rows"], model.full(), stay)
        if self.is_best(told, parts, stay, (now, stay)) is None:
            self.same(self.refused(Off, inn.take, stay).days, told[1])
        else:
            model.deed()
            self.same(inn.take(stay), now["following"])
            now["standing"] = now["standing"] + [(now["following"], stay, told[1], told[2])]
            now["following"] += 1

    def held(self, inn, model):
        self.same(inn.standing(), model.now["standing"])
        self.same(inn.full(), model.full())
        self.same([inn.rules_of(name) for name, rules in zip(NAMES, model.now["rows"])], model.now["rows"])
        self.same([number for number, room in inn.rooms()], [entry[0] for entry in model.now["standing"]])
        self.assertTrue(all(0 <= room < model.rooms for number, room in inn.rooms()))

    def test_many_deeds_and_all_undone(self):
        for seed in range(40):
            row = numbers(seed)
            rows = [[SOLD] + rules[:4] for rules in scattered_rows(seed, 1 + seed % 4, 12)]
            model = Model(1 + seed % 3, rows)
            inn = Inn(1 + seed % 3, list(zip(NAMES, rows)))
            for step in range(18):
                self.step(inn, model, row)
                self.held(inn, model)
            while model.past:
                inn.undo()
                model.now = model.past.pop()
                self.held(inn, model)
            self.refused(NoDeed, inn.undo)
            self.same(inn.take((LAST - 1, LAST)), 0)


if __name__ == "__main__":
    unittest.main()
