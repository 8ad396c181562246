import copy
import random
import unittest

from fewrooms.errors import NoTree, RoomError
from fewrooms.nets import all_needed, is_tree
from fewrooms.trees import numbers_of, tree_plan, tree_rooms
from samples import (LEANT_ON, MIXED, NAMED, ONE, all_ahead, chance_nets, chance_tree, chance_trees, fewest_by_words,
                     first_fault, full_tree, row, square, stands_behind)

ALL = (numbers_of, tree_rooms, tree_plan)


def number_by_words(net, work):
    falling = sorted((number_by_words(net, need) for need in net[work]), reverse=True)
    if not falling:
        return 1
    return max([len(falling) + 1] + [number + place for place, number in enumerate(falling)])


def plan_by_words(net, work):
    plan = []
    for need in sorted(net[work], key=lambda one: (-number_by_words(net, one), one)):
        plan += plan_by_words(net, need)
    return plan + [("do", work)] + [("clear", need) for need in sorted(net[work])]


SMALL = [net for net in NAMED if len(net) < 50] + chance_trees(91, 40, 9) + chance_nets(92, 60, 8)


def trees():
    for net in SMALL:
        for work in range(len(net)):
            if is_tree(net, work):
                yield net, work


class TestNumbersOf(unittest.TestCase):
    def test_as_told(self):
        self.assertEqual(numbers_of(ONE, 0), [(0, 1)])
        self.assertEqual(numbers_of(row(4), 3), [(0, 1), (1, 2), (2, 2), (3, 2)])
        self.assertEqual(numbers_of(full_tree(2), 6), [(0, 1), (1, 1), (2, 1), (3, 1), (4, 3), (5, 3), (6, 4)])

    def test_more_needs_than_numbers(self):
        net = ((),) * 5 + (tuple(range(5)),)
        self.assertEqual(numbers_of(net, 5)[-1], (5, 6))

    def test_falling_numbers(self):
        # 7 has the number 3 and goes first; 8 has 2 and goes next, beside one result: 3 still.
        net = ((), (), (), (), (0,), (1,), (), (2, 3), (4,), (7, 8))
        self.assertEqual(dict(numbers_of(net, 9)), {0: 1, 2: 1, 3: 1, 4: 2, 7: 3, 8: 2, 9: 3})

    def test_alike_numbers(self):
        # Three needs of the number 3: 3, 4 and 5.
        net = ((),) * 6 + ((0, 1), (2, 3), (4, 5), (6, 7, 8))
        self.assertEqual(numbers_of(net, 9)[6:], [(6, 3), (7, 3), (8, 3), (9, 5)])

    def test_works_other_than_the_last(self):
        self.assertEqual(numbers_of(LEANT_ON, 2), [(0, 1), (1, 1), (2, 3)])
        self.assertEqual(numbers_of(LEANT_ON, 6), [(0, 1), (1, 1), (2, 3), (3, 1), (4, 2), (5, 1), (6, 4)])
        self.assertEqual(numbers_of(LEANT_ON, 7), [(0, 1), (3, 1), (4, 2), (7, 3)])
        self.assertEqual(numbers_of(LEANT_ON, 8), [(8, 1)])

    def test_by_words(self):
        for net, work in trees():
            told = numbers_of(net, work)
            self.assertIs(type(told), list)
            self.assertTrue(all(type(pair) is tuple for pair in told))
            self.assertEqual(told, [(one, number_by_words(net, one)) for one in all_needed(net, (work,))])

    def test_told_lists_are_the_askers_own(self):
        told = numbers_of(LEANT_ON, 6)
        kept = list(told)
        told.clear()
        self.assertEqual(numbers_of(LEANT_ON, 6), kept)


class TestTreeRooms(unittest.TestCase):
    def test_by_words(self):
        for net, work in trees():
            told = tree_rooms(net, work)
            self.assertIs(type(told), int)
            self.assertEqual(told, number_by_words(net, work))

    def test_full_trees(self):
        for height in range(1, 8):
            net = full_tree(height)
            self.assertEqual(tree_rooms(net, len(net) - 1), height + 2)

    def test_no_fewer_rooms_by_trying_all_stands(self):
        for net, work in trees():
            if len(net) < 9:
                self.assertEqual(tree_rooms(net, work), fewest_by_words(net, (work,)), (net, work))


class TestTreePlan(unittest.TestCase):
    def check(self, net, work):
        plan = tree_plan(net, work)
        self.assertIs(type(plan), list)
        rooms = tree_rooms(net, work)
        self.assertIsNone(first_fault(net, rooms, plan))
        self.assertEqual(stands_behind(plan)[-1], (work,))
        self.assertEqual(sorted(one for word, one in plan if word == "do"), all_needed(net, (work,)))
        self.assertIsNotNone(first_fault(net, rooms - 1, plan))
        return plan

    def test_as_told(self):
        self.assertEqual(tree_plan(ONE, 0), [("do", 0)])
        self.assertEqual(tree_plan(full_tree(2), 6), [
            ("do", 0), ("do", 1), ("do", 4), ("clear", 0), ("clear", 1), ("do", 2), ("do", 3), ("do", 5), ("clear", 2),
            ("clear", 3), ("do", 6), ("clear", 4), ("clear", 5)])

    def test_greater_numbers_go_first_and_clears_rise(self):
        net = ((), (), (), (), (0,), (2, 3), (1, 4, 5))
        self.assertEqual(self.check(net, 6), [
            ("do", 2), ("do", 3), ("do", 5), ("clear", 2), ("clear", 3), ("do", 0), ("do", 4), ("clear", 0), ("do", 1),
            ("do", 6), ("clear", 1), ("clear", 4), ("clear", 5)])

    def test_of_one_number_the_lesser_work_goes_first(self):
        net = ((),) * 6 + ((3, 4), (0, 5), (1, 2), (6, 7, 8))
        order = [work for word, work in self.check(net, 9) if word == "do"]
        self.assertEqual(order, [3, 4, 6, 0, 5, 7, 1, 2, 8, 9])

    def test_by_words(self):
        for net, work in trees():
            self.assertEqual(self.check(net, work), plan_by_words(net, work))

    def test_told_plans_are_the_askers_own(self):
        told = tree_plan(LEANT_ON, 6)
        kept = copy.deepcopy(told)
        told.reverse()
        told.pop()
        self.assertEqual(tree_plan(LEANT_ON, 6), kept)


class TestGreatTrees(unittest.TestCase):
    def test_a_row(self):
        for many in (400, 1500):
            net = row(many)
            self.assertEqual(tree_rooms(net, many - 1), 2)
            self.assertEqual(numbers_of(net, many - 1), [(0, 1)] + [(work, 2) for work in range(1, many)])
            due = [("do", 0)]
            for work in range(1, many):
                due += [("do", work), ("clear", work - 1)]
            self.assertEqual(tree_plan(net, many - 1), due)
        self.assertEqual(tree_rooms(row(400), 0), 1)
        self.assertEqual(len(tree_plan(row(400), 200)), 401)

    def test_a_work_with_many_needs(self):
        net = ((),) * 399 + (tuple(range(399)),)
        self.assertEqual(tree_rooms(net, 399), 400)
        self.assertEqual(numbers_of(net, 399), [(work, 1) for work in range(399)] + [(399, 400)])
        works = list(range(399))
        self.assertEqual(tree_plan(net, 399), [("do", work) for work in works + [399]] + [("clear", one) for one in works])

    def test_a_comb(self):
        net = [()]
        while len(net) < 399:
            net += [(), (len(net) - 1, len(net))]
        net = tuple(net)
        last = len(net) - 1
        self.assertEqual(tree_rooms(net, last), 3)
        plan = tree_plan(net, last)
        self.assertIsNone(first_fault(net, 3, plan))
        self.assertEqual(stands_behind(plan)[-1], (last,))

    def test_great_trees_of_all_sorts(self):
        dice = random.Random(93)
        for _ in range(5):
            net = chance_tree(dice, 400)
            rooms, plan = tree_rooms(net, 399), tree_plan(net, 399)
            self.assertIsNone(first_fault(net, rooms, plan))
            self.assertIsNotNone(first_fault(net, rooms - 1, plan))
            self.assertEqual(stands_behind(plan)[-1], (399,))
            self.assertEqual(len(plan), 799)


class TestNoTree(unittest.TestCase):
    def check(self, net, work):
        for ask in ALL:
            with self.assertRaises(RoomError) as caught:
                ask(net, work)
            self.assertIs(type(caught.exception), NoTree)

    def test_nets_that_are_none(self):
        self.check(MIXED, 3)
        self.check(MIXED, 5)
        self.check(((), (0,), (0, 1)), 2)
        self.check(square(2, 2), 3)
        self.check(all_ahead(400), 399)

    def test_just_where_is_tree_is_false(self):
        for net in SMALL:
            for work in range(len(net)):
                if is_tree(net, work):
                    for ask in ALL:
                        ask(net, work)
                else:
                    self.check(net, work)


if __name__ == "__main__":
    unittest.main()
