import copy
import random
import unittest

from fewrooms.trying import fewest, never_paper
from samples import (LEANT_ON, MIXED, ONE, all_ahead, asks, chance_net, chance_nets, fewest_by_words, full_tree, ladder,
                     least_by_words, lists_in, moves_by_words, part_by_words, plan_does, row, spoil, square)

SMALL = [ONE, ((), ()), MIXED, row(5), all_ahead(6), square(2, 3), full_tree(2), ladder(2), ((),) * 5]
SMALL += chance_nets(101, 40, 7)
TEN = [row(10), all_ahead(10), square(2, 5), square(5, 2), ladder(4), LEANT_ON + ((6, 7),), ((),) * 10]


def ten_works(seed, many):
    dice = random.Random(seed)
    return TEN + [chance_net(dice, 10) for _ in range(many)]


class TestFewest(unittest.TestCase):
    def check(self, net, asked):
        told = fewest(net, asked)
        self.assertIs(type(told), tuple)
        rooms, plan = told
        self.assertIs(type(rooms), int)
        self.assertIs(type(plan), list)
        self.assertTrue(all(type(move) is tuple for move in plan))
        self.assertTrue(plan_does(net, rooms, plan, asked))
        self.assertEqual(rooms, fewest_by_words(net, asked), (net, asked))
        self.assertIsNone(least_by_words(net, asked, rooms - 1))
        return rooms

    def test_rooms_as_told(self):
        self.assertEqual(fewest(ONE, (0,)), (1, [("do", 0)]))
        for net, asked, rooms in ((row(10), (9,), 2), (row(10), (0,), 1), (all_ahead(10), (9,), 10), (MIXED, (3,), 3),
                                  (full_tree(2), (6,), 4), (((),) * 10, (2, 3, 5, 9), 4), (square(2, 5), (9,), 3)):
            self.assertEqual(self.check(net, asked), rooms)

    def test_by_going_through_all_stands(self):
        for net, asked in asks(SMALL, 1, 5):
            self.check(net, asked)

    def test_asked_works_that_need_one_another(self):
        self.assertEqual(self.check(row(5), (3, 4)), 2)
        # 0 is cleared, and done again at the end.
        self.assertEqual(self.check(row(5), (0, 4)), 2)
        self.assertEqual(self.check(row(5), (0, 1, 2, 3)), 4)
        self.assertEqual(self.check(MIXED, (0, 3, 5)), 3)
        # 3 is cleared behind 5, and done again behind 1 and 2.
        self.assertEqual(self.check(MIXED, (1, 2, 3, 5)), 4)

    def test_works_ahead_that_are_not_needed(self):
        net = ((), (), (0,), (1,), (3,), (), (4, 5))
        self.assertEqual(self.check(net, (6,)), 3)
        self.assertEqual(self.check(net, (5, 6)), 3)

    def test_nets_of_ten_works(self):
        for net, asked in asks(ten_works(2, 10), 3, 2):
            self.check(net, asked)

    def test_told_plans_are_the_askers_own(self):
        one, other = fewest(MIXED, (5,)), fewest(MIXED, (5,))
        self.assertIsNot(one[1], other[1])
        kept = copy.deepcopy(one)
        spoil(one)
        self.assertEqual(other, kept)
        self.assertEqual(fewest(MIXED, (5,)), kept)


class TestNeverPaper(unittest.TestCase):
    def check(self, net, asked, rooms):
        told = never_paper(net, asked, rooms)
        if least_by_words(net, asked, rooms) is not None:
            self.assertIsNone(told)
            return
        self.assertIs(type(told), tuple)
        works, stands = told
        self.assertIs(type(works), tuple)
        self.assertEqual(list(works), sorted(set(works)))
        self.assertTrue(all(type(work) is int and 0 <= work < len(net) for work in works))
        wanted = {works.index(work) for work in asked if work in works}
        self.assertTrue(wanted)
        part = part_by_words(net, works)
        self.assertIs(type(stands), list)
        self.assertIn((), stands)
        known = set(stands)
        for stand in stands:
            self.assertIs(type(stand), tuple)
            self.assertEqual(list(stand), sorted(set(stand)))
            self.assertTrue(all(type(one) is int and 0 <= one < len(works) for one in stand))
            self.assertLessEqual(len(stand), rooms)
            self.assertFalse(wanted <= set(stand))
            for word, further in moves_by_words(part, rooms, stand):
                self.assertIn(further, known)

    def test_one_work(self):
        self.assertIsNone(never_paper(ONE, (0,), 1))
        self.assertIsNone(never_paper(ONE, (0,), 400))

    def test_a_row(self):
        self.assertIsNone(never_paper(row(10), (9,), 2))
        self.check(row(10), (9,), 1)
        self.assertIsNotNone(never_paper(row(10), (9,), 1))

    def test_by_going_through_all_stands(self):
        for net, asked in asks(SMALL, 4):
            for rooms in range(1, len(net) + 2):
                self.check(net, asked, rooms)

    def test_just_below_the_fewest(self):
        for net, asked in asks(SMALL, 5):
            rooms = fewest(net, asked)[0]
            self.assertIsNone(never_paper(net, asked, rooms))
            if rooms > 1:
                self.assertIsNotNone(never_paper(net, asked, rooms - 1))

    def test_nets_of_ten_works(self):
        for net, asked in asks(ten_works(6, 6), 7, 2):
            rooms = fewest_by_words(net, asked)
            for many in {1, max(1, rooms - 1), rooms, 10}:
                self.check(net, asked, many)

    def test_told_lists_are_the_askers_own(self):
        for net, asked, rooms in ((MIXED, (5,), 2), (all_ahead(6), (2, 5), 5), (ladder(4), (8, 9), 3)):
            one, other = never_paper(net, asked, rooms), never_paper(net, asked, rooms)
            self.assertEqual(one, other)
            found = lists_in(one) + lists_in(other)
            self.assertEqual(len(found), 2)
            self.assertEqual(len({id(part) for part in found}), 2)
            kept = copy.deepcopy(one)
            spoil(one)
            self.assertEqual(other, kept)
            self.assertEqual(never_paper(net, asked, rooms), kept)


if __name__ == "__main__":
    unittest.main()
