import random
import unittest

from fewrooms.nets import all_needed, levels
from fewrooms.plainly import deep_plan, plain_plan
from samples import (MIXED, NAMED, ONE, all_ahead, chance_asked, chance_nets, first_fault, full_tree, ladder, row, square,
                     stands_behind)

NETS = list(NAMED) + chance_nets(41, 80, 10)


def plan_by_words(net, asked, order):
    plan, there = [], set()
    for place, work in enumerate(order):
        plan.append(("do", work))
        there.add(work)
        for result in sorted(there):
            if result not in asked and not any(result in net[later] for later in order[place + 1:]):
                plan.append(("clear", result))
                there.remove(result)
    return plan


def deep_order_by_words(net, asked):
    order, level = [], levels(net)

    def visit(work):
        if work not in order:
            for need in sorted(net[work], key=lambda one: (-level[one], one)):
                visit(need)
            order.append(work)

    for work in asked:
        visit(work)
    return order


def asks(seed):
    dice = random.Random(seed)
    for net in NETS:
        if len(net) < 50:
            yield net, (len(net) - 1,)
            for _ in range(4):
                yield net, chance_asked(dice, net)


def row_plan(n):
    plan = [("do", 0)]
    for work in range(1, n):
        plan += [("do", work), ("clear", work - 1)]
    return plan


class TestPlainPlan(unittest.TestCase):
    def test_moves_as_told(self):
        self.assertEqual(plain_plan(MIXED, (3,)), [
            ("do", 0), ("do", 1), ("do", 2), ("clear", 0), ("do", 3), ("clear", 1), ("clear", 2)])
        self.assertEqual(plain_plan(MIXED, (5,)), [
            ("do", 0), ("do", 1), ("do", 2), ("do", 3), ("clear", 1), ("clear", 2), ("do", 5), ("clear", 0),
            ("clear", 3)])
        self.assertEqual(plain_plan(ONE, (0,)), [("do", 0)])
        self.assertEqual(plain_plan(((), (), (0,)), (1,)), [("do", 1)])

    def test_asked_works_that_need_one_another(self):
        self.assertEqual(plain_plan(MIXED, (0, 1, 3)), [("do", 0), ("do", 1), ("do", 2), ("do", 3), ("clear", 2)])

    def test_works_that_nobody_asked_for_are_left_out(self):
        self.assertEqual(plain_plan(MIXED, (2, 4)), [("do", 0), ("do", 2), ("clear", 0), ("do", 4)])

    def test_by_words(self):
        for net, asked in asks(1):
            self.assertEqual(plain_plan(net, asked), plan_by_words(net, asked, all_needed(net, asked)))

    def test_long_rows(self):
        self.assertEqual(plain_plan(row(400), (399,)), row_plan(400))


class TestDeepPlan(unittest.TestCase):
    def test_greater_levels_go_first(self):
        net = ((), (), (1,), (0, 2))
        self.assertEqual(deep_plan(net, (3,)), [
            ("do", 1), ("do", 2), ("clear", 1), ("do", 0), ("do", 3), ("clear", 0), ("clear", 2)])

    def test_of_one_level_the_lesser_goes_first(self):
        self.assertEqual(deep_plan(full_tree(2), (6,)), [
            ("do", 0), ("do", 1), ("do", 4), ("clear", 0), ("clear", 1), ("do", 2), ("do", 3), ("do", 5), ("clear", 2),
            ("clear", 3), ("do", 6), ("clear", 4), ("clear", 5)])

    def test_levels_are_those_of_the_whole_net(self):
        net = ((), (), (), (0,), (1, 3), (2,), (2, 4, 5))
        self.assertEqual([move[1] for move in deep_plan(net, (2, 6)) if move[0] == "do"], [2, 0, 3, 1, 4, 5, 6])

    def test_asked_ones_go_rising(self):
        net = ((), (), (0,), (1,))
        self.assertEqual(deep_plan(net, (2, 3)), [
            ("do", 0), ("do", 2), ("clear", 0), ("do", 1), ("do", 3), ("clear", 1)])
        self.assertEqual(deep_plan(net, (0, 3)), [("do", 0), ("do", 1), ("do", 3), ("clear", 1)])

    def test_asked_works_that_need_one_another(self):
        self.assertEqual(deep_plan(MIXED, (2, 3)), [
            ("do", 0), ("do", 2), ("do", 1), ("clear", 0), ("do", 3), ("clear", 1)])

    def test_by_words(self):
        for net, asked in asks(2):
            self.assertEqual(deep_plan(net, asked), plan_by_words(net, asked, deep_order_by_words(net, asked)))

    def test_long_rows(self):
        self.assertEqual(deep_plan(row(400), (399,)), row_plan(400))
        self.assertEqual(deep_plan(row(1500), (1499,)), row_plan(1500))

    def test_great_nets(self):
        for net in (all_ahead(400), square(20, 20), ladder(199)):
            order = [work for word, work in deep_plan(net, (len(net) - 1,)) if word == "do"]
            self.assertEqual(sorted(order), all_needed(net, (len(net) - 1,)))
            self.assertTrue(all(order.index(need) < place for place, work in enumerate(order) for need in net[work]))


class TestBoth(unittest.TestCase):
    def test_each_needed_work_once_and_the_asked_results_alone(self):
        for net, asked in list(asks(3)) + [(row(400), (0, 7, 200, 399))]:
            for make in (plain_plan, deep_plan):
                plan = make(net, asked)
                self.assertIsNone(first_fault(net, len(net), plan))
                self.assertEqual(stands_behind(plan)[-1], asked)
                self.assertEqual(sorted(work for word, work in plan if word == "do"), all_needed(net, asked))

    def test_told_plans_are_the_askers_own(self):
        for make in (plain_plan, deep_plan):
            told = make(MIXED, (3, 5))
            kept = list(told)
            told.reverse()
            told.pop()
            again = make(MIXED, (3, 5))
            self.assertEqual(again, kept)
            self.assertIs(type(again), list)
            self.assertTrue(all(type(move) is tuple for move in again))


if __name__ == "__main__":
    unittest.main()
