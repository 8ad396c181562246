import random
import unittest

from fewrooms.errors import Barred, RoomError
from fewrooms.plans import does, most_of, played, steps_of
from samples import MIXED, NAMED, ONE, chance_asked, chance_net, chance_plan, first_fault, row, stands_behind

PLAN = [("do", 0), ("do", 1), ("do", 2), ("clear", 0), ("do", 3), ("clear", 1), ("clear", 2)]


def long_plan(n):
    """So many moves of a row, forward in two rooms, then anew."""
    plan = []
    while len(plan) < n:
        plan.append(("do", 0))
        for work in range(1, 400):
            plan += [("do", work), ("clear", work - 1)]
        plan.append(("clear", 399))
    return plan[:n]


def tries(seed, many):
    """Nets with rooms and a plan that is let by, or one in which some moves are other ones."""
    dice = random.Random(seed)
    for _ in range(many):
        net = chance_net(dice, dice.randint(1, 8))
        rooms = dice.randint(1, len(net) + 2)
        plan = chance_plan(dice, net, rooms, dice.randint(0, 30))
        if dice.random() < 0.5:
            for _ in range(dice.randint(1, 3)):
                move = (dice.choice(("do", "clear")), dice.randrange(len(net)))
                plan.insert(dice.randint(0, len(plan)), move)
        yield dice, net, rooms, plan


class TestPlayed(unittest.TestCase):
    def check_refused(self, ask, move, word):
        with self.assertRaises(RoomError) as caught:
            ask()
        self.assertIs(type(caught.exception), Barred)
        self.assertIsInstance(caught.exception, ValueError)
        self.assertEqual((caught.exception.move, caught.exception.word), (move, word))

    def test_stands(self):
        self.assertEqual(played(MIXED, 3, PLAN), [(), (0,), (0, 1), (0, 1, 2), (1, 2), (1, 2, 3), (2, 3), (3,)])

    def test_no_moves(self):
        self.assertEqual(played(MIXED, 1, []), [()])

    def test_more_rooms_than_works(self):
        self.assertEqual(played(ONE, 400, [("do", 0), ("clear", 0)]), [(), (0,), ()])

    def test_the_first_barred_move_is_named(self):
        self.check_refused(lambda: played(MIXED, 2, PLAN), 2, "full")
        self.check_refused(lambda: played(MIXED, 3, PLAN + [("clear", 3), ("clear", 3), ("do", 5)]), 8, "empty")
        self.check_refused(lambda: played(MIXED, 3, [("do", 1)] + PLAN), 0, "needs")
        self.check_refused(lambda: played(MIXED, 3, PLAN + [("do", 3)]), 7, "there")
        self.check_refused(lambda: played(MIXED, 6, PLAN + [("do", 5)]), 7, "needs")

    def test_by_words(self):
        for dice, net, rooms, plan in tries(31, 300):
            fault = first_fault(net, rooms, plan)
            if fault is None:
                self.assertEqual(played(net, rooms, plan), stands_behind(plan))
            else:
                self.check_refused(lambda: played(net, rooms, plan), *fault)

    def test_long_plans(self):
        plan = long_plan(2000)
        told = played(row(400), 2, plan)
        self.assertEqual(told, stands_behind(plan))
        self.assertEqual(len(told), 2001)
        self.check_refused(lambda: played(row(400), 2, plan[:1999] + [("do", 399)]), 1999, "needs")

    def test_what_is_handed_in_stays_and_is_not_kept(self):
        plan = list(PLAN)
        told = played(MIXED, 3, plan)
        self.assertEqual(plan, PLAN)
        plan.append(("clear", 3))
        plan[0] = ("do", 5)
        self.assertEqual(told, stands_behind(PLAN))
        with self.assertRaises(Barred):
            played(MIXED, 3, plan)
        self.assertEqual(plan, [("do", 5)] + PLAN[1:] + [("clear", 3)])

    def test_the_told_list_is_the_askers_own(self):
        told = played(MIXED, 3, PLAN)
        told.append((9,))
        told[0] = (5,)
        self.assertEqual(played(MIXED, 3, PLAN), stands_behind(PLAN))
        self.assertIs(type(told), list)
        self.assertTrue(all(type(stand) is tuple for stand in told))


class TestStepsAndMost(unittest.TestCase):
    check_refused = TestPlayed.check_refused

    def test_steps(self):
        self.assertEqual(steps_of(PLAN), 4)
        self.assertEqual(steps_of([]), 0)
        self.assertEqual(steps_of([("clear", 3), ("clear", 3)]), 0)
        self.assertEqual(steps_of([("do", 3), ("clear", 2), ("do", 3), ("do", 0)]), 3)
        self.assertEqual(steps_of(long_plan(2000)), sum(1 for move in long_plan(2000) if move[0] == "do"))

    def test_most(self):
        self.assertEqual(most_of(MIXED, PLAN), 3)
        self.assertEqual(most_of(MIXED, []), 0)
        self.assertEqual(most_of(ONE, [("do", 0)]), 1)
        self.assertEqual(most_of(ONE, [("do", 0), ("clear", 0)]), 1)
        self.assertEqual(most_of(((),) * 6, [("do", work) for work in range(6)]), 6)
        self.assertEqual(most_of(row(400), long_plan(2000)), 2)

    def test_most_is_refused_like_played(self):
        self.check_refused(lambda: most_of(MIXED, PLAN + [("clear", 0)]), 7, "empty")
        self.check_refused(lambda: most_of(MIXED, PLAN[1:]), 0, "needs")
        self.check_refused(lambda: most_of(ONE, [("do", 0), ("do", 0)]), 1, "there")

    def test_most_by_words(self):
        for dice, net, rooms, plan in tries(32, 200):
            fault = first_fault(net, len(net), plan)
            if fault is None:
                self.assertEqual(most_of(net, plan), max(len(stand) for stand in stands_behind(plan)))
            else:
                self.check_refused(lambda: most_of(net, plan), *fault)

    def test_plans_stay(self):
        plan = list(PLAN)
        most_of(MIXED, plan)
        steps_of(plan)
        does(MIXED, 3, plan, (3,))
        self.assertEqual(plan, PLAN)


class TestDoes(unittest.TestCase):
    def test_does(self):
        self.assertIs(does(MIXED, 3, PLAN, (3,)), True)
        self.assertIs(does(MIXED, 400, PLAN, (3,)), True)
        self.assertIs(does(MIXED, 3, PLAN, (2,)), False)
        self.assertIs(does(MIXED, 3, PLAN, (2, 3)), False)
        self.assertIs(does(MIXED, 3, PLAN[:-1], (2, 3)), True)

    def test_in_one_room_less(self):
        self.assertIs(does(MIXED, 2, PLAN, (3,)), False)

    def test_more_results_than_asked_may_be_there(self):
        self.assertIs(does(MIXED, 3, PLAN[:5], (3,)), True)

    def test_asked_works_that_need_one_another(self):
        self.assertIs(does(MIXED, 4, [("do", 0), ("do", 1), ("do", 2), ("do", 3)], (0, 1, 3)), True)
        self.assertIs(does(MIXED, 4, [("do", 0), ("do", 1), ("do", 2), ("clear", 0), ("do", 3)], (0, 1, 3)), False)

    def test_no_moves(self):
        self.assertIs(does(ONE, 1, [], (0,)), False)

    def test_barred_moves_tell_false(self):
        for wrong in (("do", 3), ("clear", 0), ("do", 5)):
            self.assertIs(does(MIXED, 6, PLAN + [wrong], (3,)), False)
        self.assertIs(does(MIXED, 6, [("clear", 4)] + PLAN, (3,)), False)

    def test_by_words(self):
        for dice, net, rooms, plan in tries(33, 300):
            asked = chance_asked(dice, net)
            for many in (rooms, max(1, rooms - 1), len(net) + 1):
                due = first_fault(net, many, plan) is None and set(asked) <= set(stands_behind(plan)[-1])
                self.assertIs(does(net, many, plan, asked), due)

    def test_one_room_less_than_the_most(self):
        dice = random.Random(34)
        for net in NAMED[:5]:
            plan = chance_plan(dice, net, len(net), 20)
            stands = stands_behind(plan)
            most = max(len(stand) for stand in stands)
            if stands[-1]:
                self.assertIs(does(net, most, plan, stands[-1][:4]), True)
                if most > 1:
                    self.assertIs(does(net, most - 1, plan, stands[-1][:4]), False)


if __name__ == "__main__":
    unittest.main()
