import random
import unittest

from fewrooms.behind import number_behind, plan_behind, put_behind, rooms_behind
from fewrooms.nets import beside
from fewrooms.plainly import plain_plan
from fewrooms.plans import does, most_of, played
from samples import MIXED, ONE, all_ahead, chance_net, chance_plan, full_tree, is_a_net, row, square, stands_behind

# 2 needs 0 and 1, 3 needs 0 and 2.
OTHER = ((), (), (0, 1), (0, 2))


def chance_ins(dice, one, other, many=None):
    starts = [work for work, needs in enumerate(other) if not needs]
    most = min(len(starts), len(one))
    many = dice.randint(0, most) if many is None else min(many, most)
    return tuple(zip(sorted(dice.sample(starts, many)), dice.sample(range(len(one)), many)))


def tries(seed, many, pairs=None):
    dice = random.Random(seed)
    for _ in range(many):
        one, other = chance_net(dice, dice.randint(1, 7)), chance_net(dice, dice.randint(1, 7), 2)
        yield dice, one, other, chance_ins(dice, one, other, pairs)


def numbers_by_words(one, other, ins):
    numbers, free = [], len(one)
    for work in range(len(other)):
        if work in dict(ins):
            numbers.append(dict(ins)[work])
        else:
            numbers.append(free)
            free += 1
    return numbers


def plan_by_words(one, other, ins, plan):
    numbers, told = numbers_by_words(one, other, ins), []
    for word, work in plan:
        if work in dict(ins) and word == "do":
            there = stands_behind(told)[-1]
            told += [move for move in plain_plan(one, (numbers[work],)) if move[1] not in there]
        else:
            told.append((word, numbers[work]))
    return told


class TestNets(unittest.TestCase):
    def test_no_pairs_is_beside(self):
        for dice, one, other, ins in tries(51, 60, pairs=0):
            self.assertEqual(ins, ())
            self.assertEqual(put_behind(one, other, ins), beside(one, other))
            for work in range(len(other)):
                self.assertEqual(number_behind(one, other, ins, work), len(one) + work)

    def test_some_pairs(self):
        self.assertEqual(put_behind(row(3), OTHER, ((1, 2),)), ((), (0,), (1,), (), (2, 3), (3, 4)))
        self.assertEqual([number_behind(row(3), OTHER, ((1, 2),), work) for work in range(4)], [3, 2, 4, 5])
        self.assertEqual(put_behind(row(3), OTHER, ((0, 1),)), ((), (0,), (1,), (), (1, 3), (1, 4)))

    def test_all_pairs(self):
        self.assertEqual(put_behind(row(3), OTHER, ((0, 2), (1, 0))), ((), (0,), (1,), (0, 2), (2, 3)))
        self.assertEqual([number_behind(row(3), OTHER, ((0, 2), (1, 0)), work) for work in range(4)], [2, 0, 3, 4])
        self.assertEqual(put_behind(ONE, ONE, ((0, 0),)), ONE)
        self.assertEqual(put_behind(MIXED, ((), ()), ((0, 5), (1, 2))), MIXED)

    def test_needs_rise_by_the_new_numbers(self):
        other = ((), (), (), (0, 1, 2))
        self.assertEqual(put_behind(((),) * 3, other, ((0, 2), (1, 1), (2, 0))), ((), (), (), (0, 1, 2)))
        self.assertEqual(put_behind(((),) * 3, other, ((2, 1),)), ((), (), (), (), (), (1, 3, 4)))

    def test_by_words(self):
        for dice, one, other, ins in tries(52, 300):
            numbers = numbers_by_words(one, other, ins)
            told = put_behind(one, other, ins)
            self.assertTrue(is_a_net(told))
            self.assertEqual(told[:len(one)], one)
            kept = [work for work in range(len(other)) if work not in dict(ins)]
            self.assertEqual(list(told[len(one):]),
                             [tuple(sorted(numbers[need] for need in other[work])) for work in kept])
            self.assertEqual([number_behind(one, other, ins, work) for work in range(len(other))], numbers)

    def test_great_nets(self):
        both = put_behind(row(200), row(200), ((0, 199),))
        self.assertEqual(both, row(399))


class TestPlans(unittest.TestCase):
    def check(self, one, other, ins, plan):
        before = list(plan)
        told = plan_behind(one, other, ins, plan)
        self.assertEqual(plan, before)
        self.assertEqual(told, plan_by_words(one, other, ins, plan))
        net, rooms = put_behind(one, other, ins), rooms_behind(one, other, ins, plan)
        numbers = numbers_by_words(one, other, ins)
        due = tuple(sorted(numbers[work] for work in stands_behind(plan)[-1]))
        self.assertEqual(played(net, rooms, told)[-1], due)
        self.assertTrue(does(net, max(1, rooms), told, due[:4]))
        return told

    def test_moves_as_told(self):
        plan = [("do", 0), ("do", 1), ("do", 2), ("clear", 1)]
        self.assertEqual(self.check(row(3), OTHER, ((1, 1),), plan), [
            ("do", 3), ("do", 0), ("do", 1), ("clear", 0), ("do", 4), ("clear", 1)])

    def test_an_s_done_again(self):
        plan = [("do", 0), ("clear", 0), ("do", 0), ("do", 1)]
        once = [("do", 0), ("do", 1), ("clear", 0), ("do", 2), ("clear", 1)]
        self.assertEqual(self.check(row(3), OTHER, ((0, 2),), plan), once + [("clear", 2)] + once + [("do", 3)])

    def test_results_of_one_that_are_in_rooms(self):
        ins = ((0, 1), (1, 2))
        self.assertEqual(self.check(row(3), OTHER, ins, [("do", 0), ("do", 1), ("do", 2)]), [
            ("do", 0), ("do", 1), ("clear", 0), ("do", 0), ("clear", 0), ("do", 2), ("do", 3)])
        self.assertEqual(self.check(row(3), OTHER, ins, [("do", 1), ("do", 0)]), [
            ("do", 0), ("do", 1), ("clear", 0), ("do", 2), ("clear", 1), ("do", 0), ("do", 1), ("clear", 0)])

    def test_a_result_that_was_cleared_is_done_again(self):
        ins = ((0, 1), (1, 2))
        self.assertEqual(self.check(row(3), OTHER, ins, [("do", 0), ("clear", 0), ("do", 1)]), [
            ("do", 0), ("do", 1), ("clear", 0), ("clear", 1), ("do", 0), ("do", 1), ("clear", 0), ("do", 2),
            ("clear", 1)])

    def test_no_moves(self):
        self.assertEqual(self.check(row(3), OTHER, ((0, 2),), []), [])
        self.assertEqual(self.check(row(3), OTHER, (), []), [])

    def test_no_pairs(self):
        plan = [("do", 1), ("do", 0), ("do", 2), ("clear", 0)]
        self.assertEqual(self.check(row(3), OTHER, (), plan), [("do", 4), ("do", 3), ("do", 5), ("clear", 3)])

    def test_by_words(self):
        for dice, one, other, ins in tries(53, 400):
            self.check(one, other, ins, chance_plan(dice, other, dice.randint(1, len(other) + 1), dice.randint(0, 20)))

    def test_long_plans_over_long_rows(self):
        plan = [("do", 0), ("clear", 0)] * 100
        told = self.check(row(399), ONE, ((0, 398),), plan)
        self.assertEqual(sum(1 for move in told if move[0] == "do"), 100 * 399)

    def test_the_told_plan_is_the_askers_own(self):
        plan = [("do", 0), ("do", 1)]
        told = plan_behind(row(3), OTHER, ((0, 2),), plan)
        kept = list(told)
        plan.pop()
        self.assertEqual(told, kept)
        told.reverse()
        told.pop()
        self.assertEqual(plan_behind(row(3), OTHER, ((0, 2),), [("do", 0), ("do", 1)]), kept)
        self.assertIs(type(told), list)


class TestRooms(unittest.TestCase):
    def test_rooms(self):
        plan = plain_plan(OTHER, (3,))
        self.assertEqual(most_of(OTHER, plan), 3)
        self.assertEqual(rooms_behind(row(3), OTHER, ((0, 2),), plan), 4)
        self.assertEqual(rooms_behind(row(3), OTHER, ((0, 0),), plan), 3)
        self.assertEqual(rooms_behind(full_tree(2), OTHER, ((0, 0), (1, 6)), plan), 7)
        self.assertEqual(rooms_behind(full_tree(2), OTHER, ((0, 6), (1, 0)), plan), 7)
        self.assertEqual(rooms_behind(all_ahead(5), OTHER, ((1, 3),), plan), 6)

    def test_no_pairs(self):
        self.assertEqual(rooms_behind(square(3, 3), OTHER, (), plain_plan(OTHER, (3,))), 3)
        self.assertEqual(rooms_behind(square(3, 3), OTHER, (), []), 0)

    def test_no_moves(self):
        self.assertEqual(rooms_behind(row(3), OTHER, ((0, 2),), []), 1)
        self.assertEqual(rooms_behind(row(3), OTHER, ((0, 0),), []), 0)

    def test_by_words(self):
        for dice, one, other, ins in tries(54, 200):
            plan = chance_plan(dice, other, len(other), 12)
            parts = [max(len(stand) for stand in stands_behind(plain_plan(one, (w,)))) for s, w in ins]
            due = max(parts, default=0) + max(len(stand) for stand in stands_behind(plan)) - (1 if ins else 0)
            self.assertEqual(rooms_behind(one, other, ins, plan), due)


if __name__ == "__main__":
    unittest.main()
