"""Rules and books as texts, and back: points 9 and 10, and 2 for these."""

import itertools
import unittest

from scattered import COINS, HUGE, LAST, NO_RULES, WORDS, WORTHS, Told, alike, scattered_rules
from stayprice.books import Book
from stayprice.errors import NoText, TooMany
from stayprice.texts import read_book, rule_by, rule_text, show_book

WRITTEN = (
    (("price", 3, 9, None), "price 3 9 none"),
    (("come", 4, 4, False), "come 4 4 no"),
    (("deal", 0, 60, (7, 2)), "deal 0 60 7 2"),
    (("price", 0, 0, 0), "price 0 0 0"),
    (("price", 0, LAST, COINS), "price 0 1000000 1000000000000"),
    (("price", 10, 100, 140), "price 10 100 140"),
    (("come", LAST, LAST, True), "come 1000000 1000000 yes"),
    (("come", 3, 9, False), "come 3 9 no"),
    (("go", 0, 1, True), "go 0 1 yes"),
    (("go", 0, 1, False), "go 0 1 no"),
    (("least", 3, 9, 1), "least 3 9 1"),
    (("least", 3, 9, 14), "least 3 9 14"),
    (("most", 3, 9, 1), "most 3 9 1"),
    (("most", 3, 9, 14), "most 3 9 14"),
    (("most", 3, 9, 10), "most 3 9 10"),
    (("deal", 3, 9, (2, 1)), "deal 3 9 2 1"),
    (("deal", 3, 9, (14, 13)), "deal 3 9 14 13"),
    (("deal", 3, 9, (14, 1)), "deal 3 9 14 1"),
    (("deal", 3, 9, None), "deal 3 9 none"),
    (("fee", 3, 9, 0), "fee 3 9 0"),
    (("fee", 3, 9, COINS), "fee 3 9 1000000000000"),
)
# What a worth might be written as, for whatever word.
WORTH_TEXTS = (
    "none", "yes", "no", "0", "1", "2", "13", "14", "15", "140", "1000000000000", "1000000000001", "2 1", "7 2", "14 13",
    "1 1", "2 2", "2 0", "15 1", "14 14", "7 2 1", "None", "True", "False", "YES", "No", "", "-", "-1", "+1", "01", "00",
    "1.0", "1e3", "1_0", "x", "none none", "yes no", "7 none", "none 7", "7 yes", "7 02", "07 2", "7 -2", "(7, 2)", "7,2",
    "7/2", "7  2", "9" * 60,
)


def due_worths():
    texts = {word: {} for word in WORDS}
    for number in (0, 1, 2, 13, 14, 15, 140, COINS):
        texts["price"][str(number)] = texts["fee"][str(number)] = number
        if 1 <= number <= 14:
            texts["least"][str(number)] = texts["most"][str(number)] = number
    texts["price"]["none"] = texts["deal"]["none"] = None
    for word in ("come", "go"):
        texts[word] = {"yes": True, "no": False}
    for deal in ((2, 1), (7, 2), (14, 13)):
        texts["deal"]["%d %d" % deal] = deal
    return texts


class Texts(Told):
    def no_rule(self, text):
        self.assertIsNone(rule_by(text), text)


class Rules(Told):
    def test_as_written(self):
        for rule, text in WRITTEN:
            self.same(rule_text(rule), text)
            self.same(rule_by(text), rule)

    def test_every_word_and_worth_there_and_back(self):
        for word in WORDS:
            for worth in WORTHS[word]:
                for first, last in ((0, 0), (0, 9), (9, 10), (10, 10), (99, 100), (0, LAST), (LAST - 1, LAST), (LAST, LAST)):
                    rule = (word, first, last, worth)
                    text = rule_text(rule)
                    self.assertIs(type(text), str)
                    self.assertTrue(text.startswith(f"{word} {first} {last} "), text)
                    self.same(rule_by(text), rule)
                    self.same(rule_text(rule_by(text)), text)

    def test_every_number_of_nights_and_every_deal(self):
        for many in range(1, 15):
            for word in ("least", "most"):
                self.same(rule_text((word, 3, 9, many)), f"{word} 3 9 {many}")
                self.same(rule_by(f"{word} 3 9 {many}"), (word, 3, 9, many))
            for free in range(1, many):
                self.same(rule_text(("deal", 3, 9, (many, free))), f"deal 3 9 {many} {free}")
                self.same(rule_by(f"deal 3 9 {many} {free}"), ("deal", 3, 9, (many, free)))

    def test_each_worth_at_each_word(self):
        due = due_worths()
        for word in WORDS:
            for text in WORTH_TEXTS:
                rule = (word, 3, 9, due[word][text]) if text in due[word] else None
                self.same(rule_by(f"{word} 3 9 {text}"), rule, (word, text))


class NoRuleTexts(Texts):
    def test_the_text_without_signs_and_blanks(self):
        for text in ("", " ", "  ", "   ", "    "):
            self.no_rule(text)

    def test_a_0_ahead(self):
        for rule, text in WRITTEN:
            words = text.split(" ")
            for place in range(1, len(words)):
                if words[place][0].isdigit():
                    for more in ("0", "00"):
                        self.no_rule(" ".join(words[:place] + [more + words[place]] + words[place + 1:]))

    def test_signs_ahead_and_other_signs(self):
        for rule, text in WRITTEN:
            words = text.split(" ")
            for place in range(len(words)):
                for sign in "+-_.,'\"x/*#$&()<=>?@[]^`{|}~:;!":
                    for word in (sign + words[place], words[place] + sign, words[place][0] + sign + words[place][1:]):
                        self.no_rule(" ".join(words[:place] + [word] + words[place + 1:]))

    def test_a_blank_more(self):
        for rule, text in WRITTEN:
            self.no_rule(" " + text)
            self.no_rule(text + " ")
            self.no_rule(" " + text + " ")
            for place, sign in enumerate(text):
                if sign == " ":
                    self.no_rule(text[:place] + " " + text[place:])

    def test_line_feeds(self):
        for rule, text in WRITTEN:
            self.no_rule(text + "\n")
            self.no_rule("\n" + text)
            self.no_rule(text.replace(" ", "\n"))
            self.no_rule(text + "\n" + text)

    def test_a_word_less(self):
        for rule, text in WRITTEN:
            words = text.split(" ")
            for place in range(len(words)):
                self.no_rule(" ".join(words[:place] + words[place + 1:]))
            for many in range(len(words)):
                self.no_rule(" ".join(words[:many]))

    def test_a_word_more(self):
        for rule, text in WRITTEN:
            words = text.split(" ")
            for place in range(len(words) + 1):
                for more in ("none", "yes", "no", "0", "x", rule[0]):
                    self.no_rule(" ".join(words[:place] + [more] + words[place:]))
            self.no_rule(text + " " + text)

    def test_numbers_beyond_their_bounds(self):
        for word in WORDS:
            worth = rule_text((word, 3, 9, WORTHS[word][0])).split(" ", 3)[3]
            for first, last in ((3, LAST + 1), (LAST + 1, LAST + 1), (9, 3), (1, 0), (LAST, 0), (3, HUGE), (HUGE, HUGE)):
                self.no_rule(f"{word} {first} {last} {worth}")
            for first, last in ((-1, 9), (-3, -1), (-HUGE, 9)):
                self.no_rule(f"{word} {first} {last} {worth}")
        for word in ("price", "fee"):
            for coins in (COINS + 1, 10 * COINS, HUGE, -1, -HUGE):
                self.no_rule(f"{word} 3 9 {coins}")
        for word in ("least", "most"):
            for many in (0, 15, 100, HUGE, -1):
                self.no_rule(f"{word} 3 9 {many}")
        for many, free in ((1, 1), (1, 0), (15, 1), (15, 14), (2, 2), (2, 0), (14, 14), (7, 8), (HUGE, 1), (7, HUGE)):
            self.no_rule(f"deal 3 9 {many} {free}")

    def test_days_that_are_no_numbers(self):
        for word in WORDS:
            worth = rule_text((word, 3, 9, WORTHS[word][0])).split(" ", 3)[3]
            for other in ("none", "yes", "no", "x", "3x", "x3", "3.0", "", "-", "1e1", "0x3", "1_0"):
                self.no_rule(f"{word} {other} 9 {worth}")
                self.no_rule(f"{word} 3 {other} {worth}")
                self.no_rule(f"{word} {other} {other} {worth}")

    def test_other_words(self):
        for word in ("", "p", "prices", "Price", "PRICE", "pric", "x", "none", "3", "come,", "rule", "FEE", "fees", "night"):
            for worth in ("none", "5", "yes", "7 2", "0"):
                self.no_rule(f"{word} 3 9 {worth}")

    def test_long_texts(self):
        for text in ("x" * 354, "9" * 354, " " * 354, "price 3 9 " + "9" * 344, "price " + "9" * 340 + " 9 5", "0" * 1899):
            self.no_rule(text)
        self.no_rule("price 3 9 " + "0" * 300 + "5")
        self.no_rule("price 3 9" + " 5" * 170)
        self.no_rule("deal 3 9" + " 7" * 170)

    def test_texts_of_few_signs(self):
        for words in itertools.product(("fee", "go", "0", "1", "", "no"), repeat=4):
            text = " ".join(words)
            told = rule_by(text)
            good = (
                words[1] in ("0", "1") and words[2] in ("0", "1") and words[1] <= words[2]
                and (words[0], words[3]) in (("fee", "0"), ("fee", "1"), ("go", "no"))
            )
            self.assertEqual(told is not None, good, text)
            if good:
                self.same(rule_text(told), text)


class Books(Told):
    def there_and_back(self, rules, text):
        book = Book(rules)
        self.same(show_book(book), text)
        read = read_book(text)
        self.assertIs(type(read), Book)
        self.same(read.rules(), rules)
        self.same(show_book(read), text)
        self.same(book.rules(), rules)

    def test_the_book_without_rules(self):
        self.there_and_back([], "")
        self.same(show_book(Book()), "")

    def test_as_written(self):
        self.there_and_back(
            [("price", 3, 9, None), ("come", 4, 4, False), ("deal", 0, 60, (7, 2))],
            "price 3 9 none\ncome 4 4 no\ndeal 0 60 7 2\n",
        )
        self.there_and_back([row[0] for row in WRITTEN], "".join([row[1] + "\n" for row in WRITTEN]))

    def test_each_rule_by_itself(self):
        for rule, text in WRITTEN:
            self.there_and_back([rule], text + "\n")

    def test_up_to_24_lines(self):
        for many in range(25):
            rules = scattered_rules(many, many)
            self.there_and_back(rules, "".join([rule_text(rule) + "\n" for rule in rules]))

    def test_the_longest_texts(self):
        rules = [("price", LAST, LAST, COINS)] * 24
        self.there_and_back(rules, "price 1000000 1000000 1000000000000\n" * 24)

    def test_more_than_24_lines(self):
        for many in range(25, 29):
            text = "".join([rule_text(rule) + "\n" for rule in alike(many)])
            with self.assertRaises(TooMany) as taken:
                read_book(text)
            self.assertIs(type(taken.exception), TooMany)


class NoTexts(Told):
    def line(self, thing, due):
        with self.assertRaises(NoText) as taken:
            read_book(thing)
        self.assertIs(type(taken.exception), NoText)
        self.same(taken.exception.line, due, thing)

    def test_things_that_are_no_texts(self):
        things = [thing for thing in NO_RULES if not isinstance(thing, str)]
        for thing in things + [["price 3 9 none\n"], ("price 3 9 none\n",), [[["price 3 9 none\n"]]], [""], ("",), 7]:
            kept = repr(thing)
            self.line(thing, 0)
            self.assertEqual(repr(thing), kept)
        self.line([("price", 3, 9, 5)], 0)
        self.line(("price", 3, 9, 5), 0)

    def test_a_line_that_is_no_rules_at_each_place(self):
        for wrong in ("", " ", "x", "price 3 9", "price 3 9 none ", " price 3 9 none", "price 03 9 none", "fee 3 9 none"):
            for many in (1, 2, 3, 24, 25, 28):
                for place in range(many):
                    lines = [rule_text(rule) for rule in alike(many)]
                    lines[place] = wrong
                    self.line("".join([line + "\n" for line in lines]), place)

    def test_of_two_the_first_is_told(self):
        for many in (3, 24, 28):
            for first, second in itertools.combinations(range(many), 2):
                lines = [rule_text(rule) for rule in alike(many)]
                lines[first] = "x"
                lines[second] = ""
                self.line("".join([line + "\n" for line in lines]), first)

    def test_the_last_line_feed_lacking(self):
        for many in range(1, 29):
            text = "".join([rule_text(rule) + "\n" for rule in alike(many)])
            self.line(text[:-1], many - 1)
            self.line(text + "x", many)
            self.line(text + " ", many)

    def test_a_wrong_line_ahead_of_a_lacking_line_feed(self):
        self.line("price 3 9 5\nx\nprice 3 9 5", 1)
        self.line("x\nprice 3 9 5", 0)
        self.line("price 3 9 5\nprice 3 9 5", 1)
        self.line("price 3 9 5\nx", 1)
        self.line("x", 0)

    def test_the_last_line_feed_there_twice(self):
        for many in range(0, 28):
            text = "".join([rule_text(rule) + "\n" for rule in alike(many)])
            self.line(text + "\n", many)
        self.line("\n", 0)
        self.line("\n\n", 0)
        self.line("price 3 9 5\n\nprice 3 9 5\n", 1)

    def test_a_line_feed_ahead(self):
        self.line("\nprice 3 9 5\n", 0)

    def test_rules_parted_otherwise(self):
        self.line("price 3 9 5; fee 3 9 5\n", 0)
        self.line("price 3 9 5 fee 3 9 5\n", 0)
        self.line("price 3 9\n5\n", 0)
        self.line("price 3 9 5 \n", 0)
        self.line("price 3 9 5\n fee 3 9 5\n", 1)

    def test_what_is_read_is_written_as_the_very_text(self):
        # Texts made of few pieces: whatever is let by comes back as it was.
        read = 0
        for pieces in itertools.product(("go 0 1 no", "fee 0 1 5", "\n", " ", ""), repeat=4):
            text = "".join(pieces)
            try:
                book = read_book(text)
            except NoText:
                continue
            read += 1
            self.same(show_book(book), text)
        self.assertGreater(read, 10)


class Own(Told):
    def test_what_is_read_is_a_new_book_each_time(self):
        one = read_book("price 3 9 5\n")
        other = read_book("price 3 9 5\n")
        one.rules().clear()
        self.assertIsNot(one, other)
        self.same((one.rules(), other.rules()), ([("price", 3, 9, 5)], [("price", 3, 9, 5)]))


if __name__ == "__main__":
    unittest.main()
