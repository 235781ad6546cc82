"""Stays dealt over rooms: what point 28 says of the dealing, and 2 for it."""

import itertools
import unittest

from scattered import LAST, Told, numbers
from stayprice.dealing import dealt


def fullest(stays):
    """How many stays the night has that has most of them."""
    nights = [night for come, go in stays for night in range(come, go)]
    return max([nights.count(night) for night in set(nights)], default=0)


class Dealt(Told):
    def deal(self, stays):
        handed = list(stays)
        rooms = dealt(handed)
        self.assertIs(type(rooms), list)
        self.assertEqual(len(rooms), len(stays))
        self.assertTrue(all(type(room) is int for room in rooms))
        for one, other in itertools.combinations(range(len(stays)), 2):
            if max(stays[one][0], stays[other][0]) < min(stays[one][1], stays[other][1]):
                self.assertNotEqual(rooms[one], rooms[other], (stays, rooms))
        self.assertEqual(sorted(set(rooms)), list(range(fullest(stays))), (stays, rooms))
        self.same(dealt(handed), rooms)
        self.same(handed, stays)
        return rooms

    def test_no_stays(self):
        self.same(self.deal([]), [])

    def test_one_stay(self):
        self.same(self.deal([(3, 6)]), [0])
        self.same(self.deal([(0, 14)]), [0])
        self.same(self.deal([(LAST - 1, LAST)]), [0])

    def test_stays_that_begin_where_others_end(self):
        self.same(self.deal([(3, 6), (6, 8), (8, 9)]), [0, 0, 0])
        self.same(self.deal([(8, 9), (6, 8), (3, 6)]), [0, 0, 0])
        self.deal([(3, 6), (6, 8), (3, 6), (6, 8)])
        self.deal([(3, 6), (5, 8), (6, 9), (8, 10)])

    def test_a_night_in_common(self):
        self.assertEqual(sorted(self.deal([(3, 6), (5, 8)])), [0, 1])
        self.assertEqual(sorted(self.deal([(5, 8), (3, 6)])), [0, 1])
        self.assertEqual(sorted(self.deal([(3, 9), (5, 6)])), [0, 1])

    def test_stays_alike(self):
        for many in range(1, 41):
            self.assertEqual(sorted(self.deal([(3, 6)] * many)), list(range(many)))

    def test_one_room_is_enough_though_they_are_not_in_order(self):
        stays = [(come, come + 2) for come in range(0, 20, 2)]
        for turn in range(10):
            self.same(self.deal(stays[turn:] + stays[:turn]), [0] * 10)
        self.same(self.deal(list(reversed(stays))), [0] * 10)

    def test_every_small_list(self):
        stays = [(come, go) for come in range(4) for go in range(come + 1, 5)]
        for many in (2, 3):
            for some in itertools.product(stays, repeat=many):
                self.deal(list(some))

    def test_stairs(self):
        self.deal([(come, come + 3) for come in range(40)])
        self.deal([(come, come + 14) for come in range(39, -1, -1)])

    def test_forty_stays(self):
        for seed in range(60):
            row = numbers(seed)
            begin = (0, LAST - 60)[seed % 2]
            stays = []
            for step in range(40):
                come = begin + next(row) % (5 + seed % 40)
                stays.append((come, come + 1 + next(row) % (1 + seed % 14)))
            self.deal(stays)

    def test_fewer_stays(self):
        for seed in range(200):
            row = numbers(seed)
            stays = []
            for step in range(seed % 12):
                come = next(row) % 9
                stays.append((come, come + 1 + next(row) % 5))
            self.deal(stays)

    def test_it_is_the_askers_own(self):
        stays = [(3, 6), (6, 8)]
        dealt(stays).clear()
        self.same(dealt(stays), [0, 0])


if __name__ == "__main__":
    unittest.main()
