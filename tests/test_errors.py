"""The refusals: point 2 and stayprice/errors.py in the interface."""

import unittest

from stayprice import errors
from stayprice.errors import (
    Barred, Had, NoDeed, NoName, NoRow, NoRule, NoStay, NoTaken, NoText, NotSold, Off, StayError, TooMany,
)

FIELDS = ((NoRule, "number"), (NoText, "line"), (NotSold, "night"))
LISTS = (
    (Barred, "bars", [("price", 4), ("come", 3), ("go", 6)]),
    (Off, "days", [3, 4, 9]),
)
OF_TEXTS = (TooMany, Had, NoName, NoTaken, NoDeed, NoRow, NoStay)
ALL = tuple(pair[0] for pair in FIELDS) + tuple(row[0] for row in LISTS) + OF_TEXTS


def one_of(kind):
    if kind in OF_TEXTS:
        return kind("some words")
    return kind([]) if kind in (Barred, Off) else kind(0)


class Classes(unittest.TestCase):
    def test_there_are_twelve_under_their_names(self):
        names = (
            "NoRule NoText NotSold Barred Off TooMany Had NoName NoTaken NoDeed NoRow NoStay"
        ).split()
        self.assertEqual(sorted(kind.__name__ for kind in ALL), sorted(names))
        for name in names:
            self.assertIn(getattr(errors, name), ALL)

    def test_all_stand_under_the_base(self):
        self.assertTrue(issubclass(StayError, ValueError))
        self.assertIsNot(StayError, ValueError)
        for kind in ALL:
            self.assertTrue(issubclass(kind, StayError), kind)
            self.assertFalse(issubclass(StayError, kind), kind)

    def test_none_stands_under_another_one(self):
        for one in ALL:
            for other in ALL:
                self.assertEqual(issubclass(one, other), one is other, (one, other))

    def test_each_is_taken_by_its_own_name_and_the_bases(self):
        for kind in ALL:
            for base in (kind, StayError, ValueError):
                with self.assertRaises(base):
                    raise one_of(kind)

    def test_none_is_taken_by_the_name_of_another_one(self):
        for kind in ALL:
            others = tuple(other for other in ALL if other is not kind)
            try:
                raise one_of(kind)
            except others:
                self.fail(kind)
            except StayError as refusal:
                self.assertIs(type(refusal), kind)


class Fields(unittest.TestCase):
    def test_numbers_are_kept(self):
        for kind, field in FIELDS:
            for number in (0, 1, 7, 23, 10 ** 6):
                kept = getattr(kind(number), field)
                self.assertEqual((type(kept), kept), (int, number), kind)

    def test_lists_are_kept(self):
        for kind, field, things in LISTS:
            for many in range(len(things) + 1):
                kept = getattr(kind(things[:many]), field)
                self.assertIs(type(kept), list)
                self.assertEqual(kept, things[:many])

    def test_lists_are_kept_as_copies(self):
        for kind, field, things in LISTS:
            handed = list(things)
            refusal = kind(handed)
            handed.append(things[0])
            handed[0] = None
            self.assertEqual(getattr(refusal, field), things)

    def test_what_is_done_to_a_kept_list_changes_nothing_else(self):
        for kind, field, things in LISTS:
            handed = list(things)
            one = kind(handed)
            other = kind(handed)
            getattr(one, field).clear()
            self.assertEqual(handed, things)
            self.assertEqual(getattr(other, field), things)

    def test_fields_are_there_when_it_is_taken(self):
        for kind, field, thing in FIELDS_AND_THINGS:
            try:
                raise kind(thing)
            except StayError as refusal:
                self.assertEqual(getattr(refusal, field), thing)

    def test_two_of_a_class_have_each_its_own(self):
        one = NoRule(3)
        other = NoRule(5)
        self.assertEqual((one.number, other.number), (3, 5))

    def test_the_others_are_made_of_a_text(self):
        for kind in OF_TEXTS:
            for text in ("", "some words", "x" * 1899):
                self.assertIsInstance(kind(text), kind)


FIELDS_AND_THINGS = tuple((kind, field, 4) for kind, field in FIELDS) + LISTS


if __name__ == "__main__":
    unittest.main()
