import unittest

from fewrooms.nets import is_net, levels
from fewrooms.plans import does, most_of, steps_of
from fewrooms.squares import (row_net, row_plan, row_rooms, square_net, square_plan, square_rooms, step_net, step_plan,
                              step_rooms)
from samples import all_ahead, fewest_by_words, first_fault, is_a_net, row, square, stands_behind

ROWS = [(n, back) for n in (1, 2, 3, 4, 5, 8, 13, 20) for back in (1, 2, 3, 4, 7, 12, 13, 19, 20, 21, 500)]
GREAT_ROWS = [(400, 1), (400, 2), (400, 20), (400, 398), (400, 399), (400, 400), (399, 1000), (1, 400)]
SQUARES = [(n, m) for n in range(1, 9) for m in range(1, 9)]
GREAT_SQUARES = [(20, 20), (1, 400), (400, 1), (2, 200), (200, 2), (4, 100), (100, 4), (19, 21), (21, 19), (16, 25), (25, 16)]
STEPS = list(range(1, 28))


def steps_by_words(n):
    numbers, net = {}, []
    for line in range(n):
        for place in range(n - line):
            numbers[line, place] = len(net)
            net.append((numbers[line - 1, place], numbers[line - 1, place + 1]) if line else ())
    return tuple(net)


class TestNets(unittest.TestCase):
    def check_net(self, net, many):
        self.assertTrue(is_net(net))
        self.assertTrue(is_a_net(net))
        self.assertEqual(len(net), many)

    def test_rows(self):
        self.assertEqual(row_net(1, 1), ((),))
        self.assertEqual(row_net(5, 1), ((), (0,), (1,), (2,), (3,)))
        self.assertEqual(row_net(5, 2), ((), (0,), (0, 1), (1, 2), (2, 3)))
        self.assertEqual(row_net(5, 3), ((), (0,), (0, 1), (0, 1, 2), (1, 2, 3)))
        for n, back in ROWS + GREAT_ROWS:
            net = row_net(n, back)
            self.check_net(net, n)
            for work, needs in enumerate(net):
                self.assertEqual(needs, tuple(one for one in range(work) if work - one <= back))

    def test_rows_that_reach_back_further_than_they_are_long(self):
        for n in (1, 2, 5, 20):
            for back in (n - 1, n, n + 1, 400, 10 ** 9):
                if back > 0:
                    self.assertEqual(row_net(n, back), all_ahead(n))

    def test_squares(self):
        self.assertEqual(square_net(1, 1), ((),))
        self.assertEqual(square_net(2, 2), ((), (0,), (0,), (1, 2)))
        self.assertEqual(square_net(2, 3), ((), (0,), (1,), (0,), (1, 3), (2, 4)))
        self.assertEqual(square_net(3, 2), ((), (0,), (0,), (1, 2), (2,), (3, 4)))
        for n, m in SQUARES + GREAT_SQUARES:
            net = square_net(n, m)
            self.check_net(net, n * m)
            self.assertEqual(net, square(n, m))
        for n in (1, 2, 7, 400):
            self.assertEqual(square_net(1, n), row(n))
            self.assertEqual(square_net(n, 1), row(n))

    def test_steps(self):
        self.assertEqual(step_net(1), ((),))
        self.assertEqual(step_net(2), ((), (), (0, 1)))
        self.assertEqual(step_net(3), ((), (), (), (0, 1), (1, 2), (3, 4)))
        self.assertEqual(step_net(4), ((), (), (), (), (0, 1), (1, 2), (2, 3), (4, 5), (5, 6), (7, 8)))
        for n in STEPS:
            net = step_net(n)
            self.check_net(net, n * (n + 1) // 2)
            self.assertEqual(net, steps_by_words(n))
            self.assertEqual(levels(net), [line for line in range(n) for place in range(n - line)])
        self.assertEqual(len(step_net(27)), 378)


class TestRooms(unittest.TestCase):
    def test_rows(self):
        for n, back in ROWS + GREAT_ROWS:
            self.assertEqual(row_rooms(n, back), n if n < back + 1 else back + 1)
        for told, due in ((row_rooms(1, 1), 1), (row_rooms(1, 400), 1), (row_rooms(2, 1), 2), (row_rooms(400, 1), 2),
                          (row_rooms(5, 4), 5), (row_rooms(5, 3), 4), (row_rooms(5, 5), 5), (row_rooms(400, 399), 400)):
            self.assertEqual(told, due)

    def test_squares(self):
        for n, m in SQUARES + GREAT_SQUARES:
            due = 1 if n == m == 1 else 2 if 1 in (n, m) else min(n, m) + 1
            self.assertEqual(square_rooms(n, m), due)
            self.assertEqual(square_rooms(m, n), due)
        for told, due in ((square_rooms(1, 1), 1), (square_rooms(1, 2), 2), (square_rooms(400, 1), 2),
                          (square_rooms(2, 2), 3), (square_rooms(2, 200), 3), (square_rooms(20, 20), 21)):
            self.assertEqual(told, due)

    def test_steps(self):
        self.assertEqual([step_rooms(n) for n in STEPS], [1] + list(range(3, 29)))

    def test_no_fewer_by_trying_all_stands(self):
        for n in range(1, 10):
            for back in range(1, n + 2):
                self.assertEqual(fewest_by_words(row_net(n, back), (n - 1,)), row_rooms(n, back), (n, back))
        for n, m in SQUARES:
            if n * m <= 10 or (n, m) in ((3, 4), (4, 3)):
                self.assertEqual(fewest_by_words(square_net(n, m), (n * m - 1,)), square_rooms(n, m), (n, m))
        for n in (1, 2, 3, 4):
            net = step_net(n)
            self.assertEqual(fewest_by_words(net, (len(net) - 1,)), step_rooms(n))


class TestPlans(unittest.TestCase):
    def check(self, net, rooms, plan):
        last = len(net) - 1
        self.assertIs(type(plan), list)
        self.assertTrue(all(type(move) is tuple for move in plan))
        self.assertIsNone(first_fault(net, rooms, plan))
        self.assertIn(last, stands_behind(plan)[-1])
        self.assertTrue(does(net, rooms, plan, (last,)))
        self.assertEqual(most_of(net, plan), rooms)
        if rooms > 1:
            self.assertFalse(does(net, rooms - 1, plan, (last,)))
        self.assertEqual(steps_of(plan), len(net))
        self.assertEqual(sorted(work for word, work in plan if word == "do"), list(range(len(net))))

    def test_sizes_of_one(self):
        self.assertEqual(row_plan(1, 1), [("do", 0)])
        self.assertEqual(row_plan(1, 400), [("do", 0)])
        self.assertEqual(square_plan(1, 1), [("do", 0)])
        self.assertEqual(step_plan(1), [("do", 0)])

    def test_rows(self):
        for n, back in ROWS + GREAT_ROWS:
            self.check(row_net(n, back), row_rooms(n, back), row_plan(n, back))

    def test_squares(self):
        for n, m in SQUARES + GREAT_SQUARES:
            self.check(square_net(n, m), square_rooms(n, m), square_plan(n, m))

    def test_steps(self):
        for n in STEPS:
            self.check(step_net(n), step_rooms(n), step_plan(n))

    def test_told_plans_are_the_askers_own(self):
        for ask, given in ((row_plan, (9, 3)), (square_plan, (3, 5)), (square_plan, (5, 3)), (step_plan, (5,))):
            told, other = ask(*given), ask(*given)
            self.assertEqual(told, other)
            self.assertIsNot(told, other)
            told.reverse()
            told.pop()
            self.assertEqual(ask(*given), other)


if __name__ == "__main__":
    unittest.main()
