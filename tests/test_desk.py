"""The desk: point 29, and 2 and 3 for it."""

import unittest

from scattered import (
    COINS, ELSE, HUGE, LAST, SHORT, WORDS, WORTHS, Told, alike, due_bars, due_cost, due_worth, numbers, scattered_rules,
)
from stayprice.books import Book
from stayprice.cuts import best
from stayprice.desk import Desk
from stayprice.errors import NoDeed, NoName, NoRow, NoStay, NoTaken, Off, StayError, TooMany
from stayprice.inn import Inn
from stayprice.reasons import holds_off
from stayprice.texts import rule_by, rule_text
from stayprice.tidying import tidied
from stayprice.twos import apart

NINES = "9" * 60


class Desks(Told):
    def said(self, desk, row, due):
        told = desk.say(row)
        self.assertIs(type(told), str, row)
        self.assertEqual(told, due, row)

    def refused(self, refusal, desk, row):
        before = self.state(desk)
        with self.assertRaises(refusal, msg=row) as taken:
            desk.say(row)
        self.assertIs(type(taken.exception), refusal, row)
        self.assertIsInstance(taken.exception, StayError)
        self.assertEqual(self.state(desk), before, row)
        return taken.exception

    def state(self, desk):
        return [desk.say(row) for row in ("standing", "full", "rooms", "show main", "show late")]

    def desk(self, *rows, rooms=2):
        desk = Desk(rooms, ["main", "late"])
        for row in rows:
            self.said(desk, row, "ok")
        return desk


class NothingYet(Desks):
    def test_answers(self):
        desk = self.desk()
        for row in ("show main", "show late", "standing", "full", "rooms"):
            self.said(desk, row, "-")
        self.said(desk, "best 3 6", "off 3")
        self.said(desk, "price main 3 5", "barred price 3; price 4")
        self.said(desk, "apart main late", "alike")
        self.said(desk, "tidy main", "ok")
        for word, due in zip(WORDS, ("none", "yes", "yes", "1", "14", "none", "0")):
            self.said(desk, f"worth main {word} 5", due)
        self.refused(Off, desk, "take 3 6")
        self.refused(NoTaken, desk, "back 0")
        self.said(desk, "undo", "ok")
        self.refused(NoDeed, desk, "undo")

    def test_names(self):
        for names in (["a", "b"], ["abcde", "main", "late"], ["z", "zz", "zzz", "zzzz"]):
            desk = Desk(1, names)
            for name in names:
                self.said(desk, f"show {name}", "-")
                self.said(desk, f"lay {name} price 0 9 5", "ok")
                self.said(desk, f"show {name}", "price 0 9 5")
            names.append("more")
            with self.assertRaises(NoName):
                desk.say("show more")

    def test_rooms(self):
        for rooms in range(1, 10):
            desk = self.desk("lay main price 0 9 5", rooms=rooms)
            for number in range(rooms):
                self.said(desk, "full", "-")
                self.said(desk, "take 3 4", f"{number} 5")
            self.said(desk, "full", "3")
            self.refused(Off, desk, "take 3 4")

    def test_two_desks_have_nothing_in_common(self):
        names = ["main", "late"]
        one = Desk(1, names)
        other = Desk(1, names)
        one.say("lay main price 0 9 5")
        self.said(other, "show main", "-")
        self.same(names, ["main", "late"])


class Laying(Desks):
    def test_lay_and_show(self):
        desk = self.desk("lay main price 0 60 100", "lay main deal 0 60 7 2", "lay late come 4 4 no")
        self.said(desk, "show main", "price 0 60 100; deal 0 60 7 2")
        self.said(desk, "show late", "come 4 4 no")

    def test_every_rule(self):
        for word in WORDS:
            for worth in WORTHS[word]:
                for days in ((0, 0), (3, 9), (0, LAST), (LAST, LAST)):
                    text = rule_text((word,) + days + (worth,))
                    desk = self.desk(f"lay late {text}")
                    self.said(desk, "show late", text)
                    self.said(desk, "show main", "-")
                    self.said(desk, f"worth late {word} {days[0]}", text.split(" ", 3)[3])

    def test_too_many(self):
        desk = self.desk(*[f"lay main {rule_text(rule)}" for rule in alike(24)])
        due = "; ".join(rule_text(rule) for rule in alike(24))
        self.said(desk, "show main", due)
        self.refused(TooMany, desk, "lay main fee 0 9 5")
        self.said(desk, "show main", due)
        self.said(desk, "lay late fee 0 9 5", "ok")

    def test_tidy(self):
        desk = self.desk("lay main fee 3 4 7", "lay main come 0 9 yes", "lay main fee 0 9 5", "tidy main")
        self.said(desk, "show main", "fee 0 9 5")
        self.said(desk, "undo", "ok")
        self.said(desk, "show main", "fee 3 4 7; come 0 9 yes; fee 0 9 5")
        desk = self.desk("lay main come 0 9 yes", "tidy main")
        self.said(desk, "show main", "-")

    def test_worth(self):
        desk = self.desk(
            "lay main price 3 9 140", "lay main price 5 5 none", "lay main come 4 4 no", "lay main go 0 9 yes",
            "lay main least 4 5 3", "lay main most 4 5 10", "lay main deal 4 5 7 2", "lay main fee 4 5 1000000000000",
        )
        for row, due in (
            ("price 2", "none"), ("price 3", "140"), ("price 5", "none"), ("price 9", "140"), ("price 10", "none"),
            ("come 4", "no"), ("come 5", "yes"), ("go 4", "yes"), ("least 4", "3"), ("least 3", "1"), ("most 5", "10"),
            ("most 6", "14"), ("deal 4", "7 2"), ("deal 6", "none"), ("fee 4", str(COINS)), ("fee 0", "0"),
            (f"fee {LAST}", "0"),
        ):
            self.said(desk, f"worth main {row}", due)


class Pricing(Desks):
    def test_price(self):
        desk = self.desk("lay main price 0 60 100", "lay main fee 4 4 35", "lay main deal 3 3 2 1", "lay late price 4 4 0")
        self.said(desk, "price main 3 4", "100")
        self.said(desk, "price main 3 5", "100")
        self.said(desk, "price main 4 6", "235")
        self.said(desk, "price late 4 5", "0")

    def test_barred(self):
        desk = self.desk("lay main price 0 60 100", "lay main price 4 4 none", "lay main go 6 6 no")
        self.said(desk, "price main 3 6", "barred price 4; go 6")
        self.said(desk, "price main 4 5", "barred price 4")
        self.said(desk, "price main 5 6", "barred go 6")
        desk.say("lay main come 3 3 no")
        desk.say("lay main least 3 3 4")
        desk.say("lay main most 3 3 2")
        self.said(desk, "price main 3 6", "barred price 4; come 3; go 6; least 3; most 3")

    def test_price_over_full_nights(self):
        desk = self.desk("lay main price 0 60 100", rooms=1)
        self.said(desk, "take 3 6", "0 300")
        self.said(desk, "price main 3 6", "300")
        self.said(desk, "price main 4 8", "400")
        self.said(desk, "best 4 8", "off 4")

    def test_at_the_last_days(self):
        desk = self.desk(f"lay main price 0 {LAST} 7")
        self.said(desk, f"price main {LAST - 14} {LAST}", "98")
        self.said(desk, f"best {LAST - 1} {LAST}", f"had 7 {LAST - 1}-{LAST}:main")
        self.said(desk, f"take {LAST - 1} {LAST}", "0 7")
        self.said(desk, "standing", f"0:{LAST - 1}-{LAST}:7")

    def test_best(self):
        desk = self.desk("lay main price 3 4 50", "lay late price 5 5 40")
        self.said(desk, "best 3 6", "had 140 3-5:main 5-6:late")
        self.said(desk, "best 3 4", "had 50 3-4:main")
        self.said(desk, "best 5 6", "had 40 5-6:late")
        desk.say("lay late price 4 4 0")
        self.said(desk, "best 4 5", "had 0 4-5:late")

    def test_off(self):
        desk = self.desk("lay main price 3 4 50")
        self.said(desk, "best 2 4", "off 2")
        self.said(desk, "best 3 6", "off 3 4 5")
        desk.say("lay main most 3 3 1")
        desk.say("lay main come 4 4 no")
        self.said(desk, "best 3 5", "off 3 4")

    def test_apart(self):
        desk = self.desk("lay main price 3 9 70", "lay late price 3 9 70")
        self.said(desk, "apart main late", "alike")
        desk.say("lay main most 3 3 1")
        desk.say("lay late fee 9 9 0")
        self.said(desk, "apart main late", "3-5 barred 140")
        self.said(desk, "apart late main", "3-5 140 barred")
        desk.say("lay main price 3 3 0")
        self.said(desk, "apart main late", "3-4 0 70")

    def test_apart_of_a_name_and_itself(self):
        desk = self.desk("lay main price 3 9 70", "lay main deal 3 9 2 1")
        self.said(desk, "apart main main", "alike")
        self.said(desk, "apart late late", "alike")
        for step in range(10):
            desk.say("lay main price 3 9 70")
        self.said(desk, "apart main main", "alike")
        desk.say("lay main price 3 9 70")
        self.refused(TooMany, desk, "apart main main")

    def test_apart_of_too_many(self):
        desk = self.desk(*[f"lay main {rule_text(rule)}" for rule in alike(12)])
        self.said(desk, "apart main late", "0-1 100 barred")
        desk.say("lay main fee 0 0 1")
        self.refused(TooMany, desk, "apart main late")
        self.refused(TooMany, desk, "apart late main")


class Why(Desks):
    def test_had(self):
        desk = self.desk("lay main price 3 4 50", "lay late price 5 5 40")
        self.said(desk, "why 3 6", "had")
        self.said(desk, "why 3 4", "had")

    def test_one_by_each_book(self):
        desk = self.desk("lay main price 0 60 100", "lay main price 4 4 none", "lay late price 0 60 100", "lay late go 6 6 no")
        self.said(desk, "why 4 5", "had")
        self.said(desk, "why 3 5", "had")
        desk = self.desk("lay main price 0 60 100", "lay main come 4 5 no", "lay late price 0 60 100", "lay late go 6 6 no")
        self.said(desk, "why 4 6", "main come 4; main come 5; late go 6")
        self.said(desk, "why 5 6", "main come 5; late go 6")

    def test_full_nights_are_sold_by_no_book(self):
        desk = self.desk("lay main price 0 60 100", rooms=1)
        self.said(desk, "take 4 5", "0 100")
        # By the other book nothing is sold at all.
        self.said(desk, "why 4 5", "main price 4; late price 4")
        desk.say("lay late price 0 60 100")
        self.said(desk, "why 4 5", "main price 4; late price 4")
        self.said(desk, "why 3 6", "main price 4; late price 4")
        self.said(desk, "why 5 6", "had")
        self.said(desk, "back 0", "ok")
        self.said(desk, "why 4 5", "had")

    def test_full_nights_and_bars(self):
        desk = self.desk("lay main price 0 60 100", "lay late price 0 60 90", "lay late come 3 3 no", rooms=1)
        self.said(desk, "take 4 5", "0 90")
        told = desk.say("why 3 5").split("; ")
        self.assertIn(told, (["main price 4", "late price 4"], ["main price 4", "late come 3"]))

    def test_scattered_books(self):
        had = off = 0
        for seed in range(80):
            row = numbers(seed)
            rows = [[("price", 0, 20, 100)] + scattered_rules(seed * 2 + number, 4, 7, 0, WORDS, SHORT) for number in (0, 1)]
            laying = [f"lay {name} {rule_text(rule)}" for name, rules in zip(("main", "late"), rows) for rule in rules]
            desk = self.desk(*laying, rooms=1)
            for night in (2, 4):
                if next(row) % 2 and desk.say(f"best {night} {night + 1}").startswith("had"):
                    desk.say(f"take {night} {night + 1}")
            full = [int(word) for word in desk.say("full").split(" ") if word != "-"]
            stay = (1 + seed % 3, 2 + seed % 3 + next(row) % 4)
            # With the full nights laid over both books it is as these books tell.
            books = [Book(rules + [("price", night, night, None) for night in full]) for rules in rows]
            told = desk.say(f"why {stay[0]} {stay[1]}")
            if best(books, stay)[0] == "had":
                had += 1
                self.assertEqual(told, "had")
                continue
            off += 1
            some = []
            for thing in told.split("; "):
                name, word, day = thing.split(" ")
                some.append((("main", "late").index(name), word, int(day)))
            self.assertEqual(some, sorted(some, key=lambda thing: (thing[0], WORDS.index(thing[1]), thing[2])))
            self.assertIs(holds_off(books, stay, some), True)
            for thing in some:
                self.assertIs(holds_off(books, stay, [other for other in some if other != thing]), False)
        self.assertGreater(had, 15)
        self.assertGreater(off, 15)


class Deeds(Desks):
    def test_take_and_standing(self):
        desk = self.desk("lay main price 3 4 50", "lay late price 5 5 40")
        self.said(desk, "take 3 6", "0 140")
        self.said(desk, "take 5 6", "1 40")
        self.said(desk, "standing", "0:3-6:140 1:5-6:40")
        self.said(desk, "full", "5")
        self.assertIn(desk.say("rooms"), ("0:0 1:1", "0:1 1:0"))
        self.said(desk, "take 3 5", "2 100")
        self.said(desk, "full", "3 4 5")
        self.assertIn(desk.say("rooms"), ("0:0 1:1 2:1", "0:1 1:0 2:0"))
        self.same(self.refused(Off, desk, "take 4 5").days, [4])

    def test_back(self):
        desk = self.desk("lay main price 0 60 50")
        for number in range(12):
            self.said(desk, f"take {number} {number + 1}", f"{number} 50")
        self.said(desk, "back 10", "ok")
        self.refused(NoTaken, desk, "back 10")
        self.refused(NoTaken, desk, "back 12")
        self.refused(NoTaken, desk, f"back {NINES}")
        self.said(desk, "back 0", "ok")
        self.assertEqual(desk.say("standing").split(" ")[0], "1:1-2:50")
        self.said(desk, "take 3 4", "12 50")

    def test_undo(self):
        desk = self.desk("lay main price 0 60 50")
        self.said(desk, "take 3 5", "0 100")
        self.said(desk, "back 0", "ok")
        self.said(desk, "tidy main", "ok")
        self.said(desk, "undo", "ok")
        self.said(desk, "undo", "ok")
        self.said(desk, "standing", "0:3-5:100")
        self.said(desk, "undo", "ok")
        self.said(desk, "standing", "-")
        self.said(desk, "take 3 4", "0 50")
        self.said(desk, "undo", "ok")
        self.said(desk, "undo", "ok")
        self.said(desk, "show main", "-")
        self.refused(NoDeed, desk, "undo")

    def test_a_refused_row_is_no_deed(self):
        desk = self.desk("lay main price 0 60 50")
        for refusal, row in ((NoRow, "lay main price 0"), (NoName, "tidy x"), (NoStay, "take 5 5"), (NoTaken, "back 0")):
            self.refused(refusal, desk, row)
        self.said(desk, "undo", "ok")
        self.refused(NoDeed, desk, "undo")

    def test_what_was_taken_stands(self):
        desk = self.desk("lay main price 0 60 50")
        desk.say("take 3 5")
        desk.say("lay main price 0 60 none")
        desk.say("tidy main")
        self.said(desk, "standing", "0:3-5:100")

    def test_books_of_twenty_four_rules(self):
        desk = self.desk("lay main price 0 60 50", *[f"lay main fee {day} {day} {day}" for day in range(23)], rooms=1)
        self.said(desk, "best 3 6", "had 153 3-6:main")
        self.said(desk, "take 4 5", "0 54")
        self.said(desk, "best 3 6", "off 3 4")
        self.refused(Off, desk, "take 3 6")
        self.said(desk, "price main 3 6", "153")


class Rows(Desks):
    GOOD = (
        "lay main price 3 9 5", "show main", "tidy main", "worth main price 3", "price main 3 5", "best 3 5", "why 3 5",
        "take 3 5", "back 0", "undo", "standing", "full", "rooms", "apart main late",
    )

    def fresh(self):
        desk = self.desk("lay main price 0 60 50", "lay late price 0 60 70")
        self.said(desk, "take 3 5", "0 100")
        return desk

    def test_what_is_no_text(self):
        desk = self.fresh()
        for thing in (
            None, True, False, 0, 5, -1, HUGE, [], (), ["undo"], ("undo",), [["undo"]], ["show", "main"], ("back", 0), [None],
        ):
            self.refused(NoRow, desk, thing)

    def test_a_blank_more(self):
        for row in self.GOOD:
            desk = self.fresh()
            words = row.split(" ")
            for place in range(len(words) + 1):
                self.refused(NoRow, desk, " ".join(words[:place] + [""] + words[place:]))
            desk.say(row)

    def test_a_word_without_signs(self):
        for row in self.GOOD:
            desk = self.fresh()
            words = row.split(" ")
            for place in range(len(words)):
                self.refused(NoRow, desk, " ".join(words[:place] + [""] + words[place + 1:]))

    def test_a_word_less_or_more(self):
        for row in self.GOOD:
            desk = self.fresh()
            words = row.split(" ")
            for place in range(len(words)):
                self.refused(NoRow, desk, " ".join(words[:place] + words[place + 1:]))
                self.refused(NoRow, desk, " ".join(words[:place + 1] + words[place:]))
            for more in ("main", "3", "x", "ok", "-"):
                self.refused(NoRow, desk, f"{row} {more}")
                self.refused(NoRow, desk, f"{more} {row}")

    def test_other_words(self):
        desk = self.fresh()
        for row in (
            "", " ", "  ", "-", "ok", "x", "lays main price 3 9 5", "Lay main price 3 9 5", "LAY main price 3 9 5", "shows main",
            "take", "give 0", "give_back 0", "rules_of main", "say undo", "undo undo", "undo 0", "standing 0", "full 3",
            "rooms 2", "undo;", "undo\n", "\nundo", "show\nmain", "show main\n", "best 3-5", "best 3,5", "NAME", "None", "~",
        ):
            self.refused(NoRow, desk, row)

    def test_numbers(self):
        desk = self.fresh()
        for number in ("00", "03", "+3", "-3", "-0", "3.0", "3e0", "0x3", "1_0", "three", "", "3x", "x3", "1" + "0" * 60, "9" * 70):
            for row in (
                "back {}", "best {} 5", "best 2 {}", "why {} 5", "why 2 {}", "take {} 5", "take 2 {}", "price main {} 5",
                "price main 2 {}", "worth main price {}", "lay main price {} 9 5", "lay main price 0 {} 5",
                "lay main price 0 9 {}", "lay main deal 0 9 {} 1", "lay main deal 0 9 7 {}",
            ):
                self.refused(NoRow, desk, row.format(number))

    def test_numbers_of_sixty_figures(self):
        desk = self.fresh()
        self.refused(NoTaken, desk, f"back {NINES}")
        self.refused(NoStay, desk, f"best 3 {NINES}")
        self.refused(NoStay, desk, f"best {NINES} 5")
        self.refused(NoStay, desk, f"take {NINES} 5")
        self.refused(NoStay, desk, f"worth main price {NINES}")
        self.refused(NoStay, desk, f"price main 3 {NINES}")
        self.refused(NoRow, desk, f"lay main price 3 9 {NINES}")
        self.refused(NoRow, desk, f"back 9{NINES}")
        self.refused(NoRow, desk, f"best 3 9{NINES}")

    def test_names(self):
        desk = self.fresh()
        for name in (
            "Main", "MAIN", "ma1n", "main1", "ma_in", "ma-in", "main;", "1", "0", "abcdefghi", "mainmainm", "*", "ma.in", "{main}",
        ):
            for row in (
                "lay {} price 3 9 5", "show {}", "tidy {}", "worth {} price 3", "price {} 3 5", "apart {} main", "apart main {}",
            ):
                self.refused(NoRow, desk, row.replace("{}", name))

    def test_names_that_no_book_has(self):
        desk = self.fresh()
        for name in ("x", "mai", "mainn", "abcdefgh", "latemain", "lay", "price", "zzzzzzzz"):
            for row in (
                "lay {} price 3 9 5", "show {}", "tidy {}", "worth {} price 3", "price {} 3 5", "apart {} main",
                "apart main {}", "apart {} {}",
            ):
                self.refused(NoName, desk, row.replace("{}", name))

    def test_things_that_are_no_rules(self):
        desk = self.fresh()
        for text in (
            "", "price", "price 3", "price 3 9", "price 9 3 5", "price 3 9 -5", f"price 3 9 {COINS + 1}", f"price 3 {LAST + 1} 5",
            "price 3 9 yes", "price 3 9 5 5", "price 3 9 None", "price 3 9 NONE", "prices 3 9 5", "come 3 9 1", "come 3 9 none",
            "come 3 9 True", "go 3 9 maybe", "least 3 9 0", "least 3 9 15", "most 3 9 none", "deal 3 9 7", "deal 3 9 7 7",
            "deal 3 9 1 1", "deal 3 9 7 2 1", "deal 3 9 none none", "fee 3 9 none", "price 3 9 5;", "price 3 9 5\n", "main price 3 9 5",
        ):
            self.assertIsNone(rule_by(text))
            self.refused(NoRow, desk, f"lay main {text}")

    def test_words_of_worth(self):
        desk = self.fresh()
        for word in ("prices", "Price", "x", "worth", "main", "none", "1", "word", "PRICE"):
            self.refused(NoRow, desk, f"worth main {word} 3")
        for word in WORDS:
            self.assertEqual(type(desk.say(f"worth main {word} 3")), str)

    def test_days_that_are_no_stay(self):
        desk = self.fresh()
        for come, go in (
            (5, 5), (5, 3), (0, 0), (0, 15), (3, 18), (LAST, LAST + 1), (LAST - 1, LAST + 1), (LAST, LAST), (LAST, 0), (3, LAST),
            (LAST + 1, LAST + 2),
        ):
            for row in ("best", "why", "take", "price main", "price late"):
                self.refused(NoStay, desk, f"{row} {come} {go}")
        for day in (LAST + 1, LAST + 2, HUGE):
            self.refused(NoStay, desk, f"worth main fee {day}")
        self.said(desk, f"worth main fee {LAST}", "0")
        self.said(desk, "best 0 14", "had 700 0-14:main")

    def test_the_order_of_the_refusals(self):
        desk = self.fresh()
        # What is no row goes first, though no book has the name.
        self.refused(NoRow, desk, "price x 03 5")
        self.refused(NoRow, desk, "lay x price 9 3 5")
        self.refused(NoRow, desk, "worth x prices 3")
        self.refused(NoRow, desk, "worth x price 03")
        self.refused(NoRow, desk, "apart x Y")
        self.refused(NoRow, desk, "price x 5 5 5")
        # Then the name, though the days are no stay.
        self.refused(NoName, desk, "price x 5 5")
        self.refused(NoName, desk, "price x 5 3")
        self.refused(NoName, desk, f"worth x price {LAST + 1}")
        # Then the days, though the deed would be refused too.
        self.refused(NoStay, desk, "take 5 5")
        self.refused(NoStay, desk, "price main 5 5")
        # Then as the deed is.
        for step in range(23):
            desk.say("lay main price 0 60 50")
        self.refused(TooMany, desk, "lay main price 0 60 50")
        self.refused(NoRow, desk, "lay main price 0 60")
        self.refused(NoName, desk, "lay x price 0 60 50")
        self.refused(NoName, desk, "apart main x")
        self.refused(NoName, desk, "apart x main")
        self.refused(TooMany, desk, "apart main late")


class Scattered(Desks):
    """A desk beside an inn to which the same is done."""

    def asked(self, desk, inn, rows, row):
        come = next(row) % 8
        go = come + 1 + next(row) % 4
        rules = rows[next(row) % 2]
        name = ("main", "late")[rows.index(rules)]
        stay = (come, go)
        bars = due_bars(rules, stay)
        due = "barred " + "; ".join(f"{word} {day}" for word, day in bars) if bars else str(due_cost(rules, stay))
        self.said(desk, f"price {name} {come} {go}", due)
        told = inn.best(stay)
        if told[0] == "had":
            due = f"had {told[1]} " + " ".join(f"{part[0]}-{part[1]}:{('main', 'late')[part[2]]}" for part in told[2])
        else:
            due = "off " + " ".join(str(day) for day in told[1])
        self.said(desk, f"best {come} {go}", due)
        word = WORDS[next(row) % 7]
        worth = due_worth(rules, word, come)
        self.said(desk, f"worth {name} {word} {come}", rule_text((word, 0, 0, worth)).split(" ", 3)[3])
        self.said(desk, f"show {name}", "; ".join(rule_text(rule) for rule in rules) or "-")
        self.said(desk, "standing", " ".join(f"{n}:{s[0]}-{s[1]}:{c}" for n, s, c, cut in inn.standing()) or "-")
        self.said(desk, "full", " ".join(str(night) for night in inn.full()) or "-")
        self.said(desk, "rooms", " ".join(f"{number}:{room}" for number, room in inn.rooms()) or "-")
        told = apart(Book(rows[0]), Book(rows[1]))
        costs = [] if told is None else ["barred" if coins is None else str(coins) for coins in told[1:]]
        self.said(desk, "apart main late", "alike" if told is None else " ".join([f"{told[0][0]}-{told[0][1]}"] + costs))
        return stay

    def test_many_rows(self):
        for seed in range(30):
            row = numbers(seed)
            desk = self.desk(rooms=1 + seed % 3)
            inn = Inn(1 + seed % 3, [("main", []), ("late", [])])
            rules = [("price", 0, 20, 100)] + scattered_rules(seed, 8, 12, 0, WORDS, SHORT)
            for rule in rules:
                name = ("main", "late")[next(row) % 2]
                self.said(desk, f"lay {name} {rule_text(rule)}", "ok")
                inn.lay(name, [rule])
                stay = self.asked(desk, inn, [inn.rules_of("main"), inn.rules_of("late")], row)
                what = next(row) % 5
                if what < 2 and inn.best(stay)[0] == "had":
                    number = inn.take(stay)
                    self.said(desk, f"take {stay[0]} {stay[1]}", f"{number} {inn.standing()[-1][2]}")
                if what == 2 and inn.standing():
                    number = inn.standing()[0][0]
                    inn.give_back(number)
                    self.said(desk, f"back {number}", "ok")
                if what == 3:
                    inn.undo()
                    self.said(desk, "undo", "ok")
                if what == 4:
                    inn.tidy(name)
                    self.said(desk, f"tidy {name}", "ok")
                    self.same(inn.rules_of(name), tidied(Book(inn.rules_of(name))).rules())

    def test_the_usual_worths(self):
        desk = self.desk()
        for word in WORDS:
            self.said(desk, f"worth late {word} 0", rule_text((word, 0, 0, ELSE[word])).split(" ", 3)[3])


if __name__ == "__main__":
    unittest.main()
