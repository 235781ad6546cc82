"""Rules, their words and worths, and what holds else: point 6."""

import copy
import unittest

from stayprice.rules import Come, Deal, Fee, Go, Least, Most, Price, Rule, rule_of, usual

LAST = 10 ** 6
COINS = 10 ** 12
HUGE = 10 ** 60 - 1
KINDS = (
    ("price", Price), ("come", Come), ("go", Go), ("least", Least), ("most", Most), ("deal", Deal), ("fee", Fee),
)
CLASSES = tuple(kind for word, kind in KINDS)
DEALS = tuple((many, free) for many in range(2, 15) for free in range(1, many))
COINS_WITHIN = tuple(range(0, 16)) + (140, LAST, LAST + 1, COINS - 1, COINS)
NIGHTS = tuple(range(1, 15))
GOOD = {
    "price": COINS_WITHIN + (None,),
    "come": (True, False),
    "go": (True, False),
    "least": NIGHTS,
    "most": NIGHTS,
    "deal": DEALS + (None,),
    "fee": COINS_WITHIN,
}
# Things of every kind: for each word those that are not among its good ones
# are no worths.
POOL = (
    (None, True, False)
    + COINS_WITHIN + NIGHTS
    + (-1, -2, -14, -COINS, COINS + 1, COINS + 2, 2 * COINS, HUGE, -HUGE, 10 ** 59, -(10 ** 59))
    + ("", "0", "5", "none", "None", "yes", "no", "True", "price", "7 2", "x" * 1899)
    + tuple((many, free) for many in range(-1, 18) for free in range(-1, 18))
    + ([], (), [None], (None,), [True], (True,), [5], (5,), [7, 2], [2, 1], (7,), (7, 2, 1), (7, 2, None), (7, 2, 2, 1))
    + ((7, None), (None, 2), (None, None), (7, True), (True, 2), (True, True), (2, True), (7, False), (False, False))
    + (("7", "2"), (7, "2"), ("7", 2), ("", ""), ((7, 2),), [(7, 2)], ([7, 2],), [[7, 2]], ((7,), (2,)), (7, (2,)))
    + (([7], 2), (7, [2]), ((7, 2), 1), (14, (7, 2)), (((7, 2),),), [[[7, 2]]], [([7], [2])], (((7,), 2),))
    + ((HUGE, 2), (7, HUGE), (-HUGE, 2), (7, -HUGE), (HUGE, HUGE), (HUGE, HUGE - 1))
)
STRETCHES = (
    (0, 0), (0, 1), (3, 9), (4, 4), (0, LAST), (LAST, LAST), (LAST - 1, LAST), (0, 60), (1, 999999), (300, 400),
)
NO_STRETCHES = (
    (-1, 5), (-1, -1), (5, LAST + 1), (LAST + 1, LAST + 1), (LAST, LAST + 1), (1, 0), (9, 3), (LAST, 0), (HUGE, HUGE),
    (3, HUGE), (-HUGE, 3), (-HUGE, HUGE), (HUGE, -HUGE), (True, True), (False, 5), (0, True), (False, False), (1, True),
    (None, 5), (3, None), (None, None), ("3", "9"), ("3", 9), (3, "9"), ("", ""), ([3], [9]), ((3,), (9,)), (3, [9]),
    ((3, 9), (3, 9)), ((3, 9), 9), (3, (3, 9)), ([[3]], 9), (((3,),), 9),
)
NO_WORDS = (
    "", " ", "p", "pric", "prices", "pricep", "Price", "PRICE", "pricE", " price", "price ", "price\n", "comes", "Come",
    "com", "goes", "Go", "g", "leas", "leasts", "Least", "mos", "mosts", "Most", "dea", "deals", "Deal", "fe", "fees",
    "Fee", "FEE", "night", "word", "rule", "none", "yes", "worth", "free", "many", "stay", "x" * 1899,
    None, True, False, 0, 1, 5, HUGE, -HUGE, [], (), ["price"], ("price",), ["fee"], ("fee",), [["go"]], (("deal",),),
    ["p", "r", "i", "c", "e"], ("come", "go"), ("least", "most"),
)
WORTHS_FOR_ALL = (None, True, False, 0, 1, 5, 14, COINS, (7, 2), (2, 1), "", "none", [], ())


def is_good(word, worth):
    # Compared by kind too: True is no 1 here.
    return any(type(worth) is type(good) and repr(worth) == repr(good) for good in GOOD[word])


def good_rules():
    for word, kind in KINDS:
        for worth in GOOD[word]:
            yield kind, (word, 3, 9, worth)
        for first, last in STRETCHES:
            for worth in (GOOD[word][0], GOOD[word][-1]):
                yield kind, (word, first, last, worth)


class Told(unittest.TestCase):
    def is_rule(self, kind, thing):
        rule = rule_of(thing)
        self.assertIs(type(rule), kind, thing)
        self.assertIs(type(rule.told()), tuple)
        self.assertEqual(repr(rule.told()), repr(thing))
        fields = (rule.word(), rule.first, rule.last, rule.worth)
        self.assertEqual(repr(fields), repr(thing))

    def is_none(self, thing):
        handed = copy.deepcopy(thing)
        self.assertIsNone(rule_of(handed), repr(thing))
        self.assertEqual(repr(handed), repr(thing))


class RuleOf(Told):
    def test_as_written_in_the_document(self):
        self.is_rule(Price, ("price", 3, 9, None))
        self.is_rule(Come, ("come", 4, 4, False))
        self.is_rule(Deal, ("deal", 0, 60, (7, 2)))

    def test_every_good_rule(self):
        for kind, thing in good_rules():
            self.is_rule(kind, thing)

    def test_every_worth_of_the_pool(self):
        for word, kind in KINDS:
            for worth in POOL:
                if is_good(word, worth):
                    self.is_rule(kind, (word, 3, 9, worth))
                else:
                    self.is_none((word, 3, 9, worth))

    def test_edges_of_coins(self):
        for word, kind in (("price", Price), ("fee", Fee)):
            self.is_rule(kind, (word, 3, 9, 0))
            self.is_rule(kind, (word, 3, 9, COINS))
            self.is_none((word, 3, 9, -1))
            self.is_none((word, 3, 9, COINS + 1))

    def test_edges_of_nights(self):
        for word, kind in (("least", Least), ("most", Most)):
            self.is_none((word, 3, 9, 0))
            self.is_rule(kind, (word, 3, 9, 1))
            self.is_rule(kind, (word, 3, 9, 14))
            self.is_none((word, 3, 9, 15))

    def test_edges_of_deals(self):
        for many in (1, 2, 14, 15):
            for free in (0, 1, many - 1, many):
                thing = ("deal", 3, 9, (many, free))
                if many in (2, 14) and 1 <= free < many:
                    self.is_rule(Deal, thing)
                else:
                    self.is_none(thing)

    def test_none_where_it_may_stand_and_where_not(self):
        for word, kind in KINDS:
            if word in ("price", "deal"):
                self.is_rule(kind, (word, 3, 9, None))
            else:
                self.is_none((word, 3, 9, None))

    def test_truths_are_no_numbers_and_numbers_no_truths(self):
        for word, kind in KINDS:
            for truth in (True, False):
                if word in ("come", "go"):
                    self.is_rule(kind, (word, 3, 9, truth))
                    self.is_none((word, 3, 9, int(truth)))
                else:
                    self.is_none((word, 3, 9, truth))

    def test_days_that_are_no_stretch(self):
        for word, kind in KINDS:
            for first, last in NO_STRETCHES:
                for worth in (GOOD[word][0], GOOD[word][-1]):
                    self.is_none((word, first, last, worth))

    def test_other_words(self):
        for word in NO_WORDS:
            for worth in WORTHS_FOR_ALL:
                self.is_none((word, 3, 9, worth))

    def test_lists_in_a_tuples_place(self):
        for kind, thing in good_rules():
            self.is_none(list(thing))
        for deal in DEALS:
            self.is_none(("deal", 3, 9, list(deal)))

    def test_a_thing_less_or_more(self):
        for word, kind in KINDS:
            rule = (word, 3, 9, GOOD[word][0])
            for more in (None, True, 0, 5, "", "fee", [], (), rule):
                self.is_none(rule + (more,))
                self.is_none((more,) + rule)
            for place in range(4):
                self.is_none(rule[:place] + rule[place + 1:])
            self.is_none(rule + rule)
            self.is_none((word,))
            self.is_none((word, (3, 9), rule[3]))
            self.is_none((word, (3, 9), rule[3], None))
            self.is_none(rule[::-1])

    def test_things_of_other_kinds(self):
        for thing in POOL + NO_WORDS + ("price 3 9 none", "price", "come 4 4 no", 4):
            self.is_none(thing)

    def test_things_nested_deep(self):
        rule = ("price", 3, 9, 5)
        for thing in (
            (rule,), [rule], ((rule,),), [[rule]], [(rule,)], (rule, rule), (rule, rule, rule, rule), [rule] * 4,
            (rule, 3, 9, 5), ("price", rule, 9, 5), ("price", 3, rule, 5), ("price", 3, 9, rule), ("fee", 3, 9, [[5]]),
            ("price", [[3]], 9, 5), ("price", 3, ((9,),), 5), ([["price"]], 3, 9, 5), ("deal", 3, 9, ((7,), (2,))),
            ("deal", 3, 9, ((7, 2),)), ("deal", 3, 9, [(7, 2)]), ("deal", 3, 9, ([7], 2)), ((), (), (), ()),
            ([], [], [], []), (None, None, None, None), ((("price", 3, 9, 5),),), ("pric", 3, 9, 5), ("come", 3, 9, [True]),
            ("come", 3, 9, (True,)), ("least", 3, 9, (2,)), ("most", 3, 9, [2]),
        ):
            self.is_none(thing)

    def test_each_answer_is_the_askers_own(self):
        for kind, thing in good_rules():
            one = rule_of(thing)
            one.first = 77
            one.last = 78
            one.worth = "changed"
            self.is_rule(kind, thing)


class Classes(Told):
    def test_each_stands_under_rule_and_under_no_other(self):
        for one in CLASSES:
            self.assertTrue(issubclass(one, Rule))
            self.assertIsNot(one, Rule)
            self.assertFalse(issubclass(Rule, one))
            for other in CLASSES:
                self.assertEqual(issubclass(one, other), one is other, (one, other))

    def test_made_of_the_parts_of_a_rule(self):
        for kind, thing in good_rules():
            rule = kind(thing[1], thing[2], thing[3])
            self.assertEqual(repr((rule.first, rule.last, rule.worth)), repr(thing[1:]))
            self.assertEqual(rule.word(), thing[0])
            self.assertIs(type(rule.told()), tuple)
            self.assertEqual(repr(rule.told()), repr(thing))

    def test_two_of_a_class_have_each_its_own(self):
        for word, kind in KINDS:
            one = kind(1, 2, GOOD[word][0])
            other = kind(3, 4, GOOD[word][1])
            self.assertEqual(repr(one.told()), repr((word, 1, 2, GOOD[word][0])))
            self.assertEqual(repr(other.told()), repr((word, 3, 4, GOOD[word][1])))

    def test_words(self):
        words = [rule_of((word, 3, 9, GOOD[word][0])).word() for word, kind in KINDS]
        self.assertEqual(words, ["price", "come", "go", "least", "most", "deal", "fee"])


class Tells(unittest.TestCase):
    def test_at_both_ends_and_beside_them(self):
        for word, kind in KINDS:
            for worth in (GOOD[word][0], GOOD[word][-1]):
                for first, last in STRETCHES:
                    made = (kind(first, last, worth), rule_of((word, first, last, worth)))
                    days = (0, first - 1, first, first + 1, (first + last) // 2, last - 1, last, last + 1, LAST)
                    for day in days:
                        if 0 <= day <= LAST:
                            for rule in made:
                                self.assertIs(rule.tells(day), first <= day <= last, (word, first, last, day))

    def test_each_day_of_short_stretches(self):
        for word, kind in KINDS:
            for first in range(0, 6):
                for last in range(first, 6):
                    rule = kind(first, last, GOOD[word][0])
                    told = [rule.tells(day) for day in range(0, 8)]
                    self.assertEqual(repr(told), repr([first <= day <= last for day in range(0, 8)]))

    def test_as_written(self):
        rule = Price(3, 9, None)
        told = [rule.tells(day) for day in (0, 2, 3, 4, 8, 9, 10, LAST)]
        self.assertEqual(repr(told), repr([False, False, True, True, True, True, False, False]))

    def test_the_ends_of_all_days(self):
        for word, kind in KINDS:
            worth = GOOD[word][0]
            for day in (0, 1, LAST - 1, LAST):
                self.assertIs(kind(0, LAST, worth).tells(day), True)
                self.assertIs(kind(0, 0, worth).tells(day), day == 0)
                self.assertIs(kind(LAST, LAST, worth).tells(day), day == LAST)


class Usual(unittest.TestCase):
    def test_of_each_word(self):
        due = (("price", None), ("come", True), ("go", True), ("least", 1), ("most", 14), ("deal", None), ("fee", 0))
        for word, worth in due:
            for turn in range(2):
                told = usual(word)
                self.assertIs(type(told), type(worth), word)
                self.assertEqual(told, worth, word)

    def test_what_holds_else_is_itself_a_worth(self):
        for word, kind in KINDS:
            self.assertIs(type(rule_of((word, 0, LAST, usual(word)))), kind)


if __name__ == "__main__":
    unittest.main()
