import copy
import random
import unittest

from fewrooms.nets import all_needed
from fewrooms.stairs import least_steps, stair
from samples import (BACK_AND_FORTH, LEANT_ON, MIXED, ONE, TWICE, all_ahead, asks, chance_net, chance_nets,
                     fewest_by_words, full_tree, ladder, least_by_words, lists_in, moves_by_words, plan_does,
                     reached_by_words, row, spoil, square)

SMALL = [ONE, ((), ()), MIXED, row(5), all_ahead(6), square(2, 3), full_tree(2), ladder(2), ((),) * 5]
SMALL += chance_nets(81, 40, 7)


class Told(unittest.TestCase):
    def check_paper(self, net, asked, rooms, paper, steps=None):
        self.assertIs(type(paper), list)
        for pair in paper:
            self.assertIs(type(pair), tuple)
            stand, number = pair
            self.assertIs(type(stand), tuple)
            self.assertIs(type(number), int)
            self.assertGreaterEqual(number, 0)
            self.assertEqual(list(stand), sorted(set(stand)))
            self.assertLessEqual(len(stand), rooms)
        stands = [pair[0] for pair in paper]
        self.assertEqual(stands, sorted(set(stands)))
        self.assertEqual(paper[0], ((), 0))
        numbers = dict(paper)
        for stand, number in paper:
            for word, further in moves_by_words(net, rooms, stand):
                self.assertIn(further, numbers)
                self.assertLessEqual(numbers[further], number + (word == "do"))
            if set(asked) <= set(stand):
                self.assertIsNotNone(steps)
                self.assertGreaterEqual(number, steps)

    def check(self, net, asked, rooms):
        told = least_steps(net, asked, rooms)
        self.assertIs(type(told), tuple)
        least = least_by_words(net, asked, rooms)
        if least is None:
            self.assertEqual(len(told), 2)
            self.assertEqual(told[0], "none")
            self.check_paper(net, asked, rooms, told[1])
            return None
        word, plan, steps, paper = told
        self.assertEqual(word, "plan")
        self.assertEqual(steps, least)
        self.assertIs(type(plan), list)
        self.assertTrue(all(type(move) is tuple for move in plan))
        self.assertTrue(plan_does(net, rooms, plan, asked))
        self.assertEqual(len([move for move in plan if move[0] == "do"]), steps)
        self.check_paper(net, asked, rooms, paper, steps)
        return steps


class TestLeastSteps(Told):
    def test_one_work(self):
        paper = [((), 0), ((0,), 1)]
        self.assertEqual(least_steps(ONE, (0,), 1), ("plan", [("do", 0)], 1, paper))
        self.assertEqual(least_steps(ONE, (0,), 400), ("plan", [("do", 0)], 1, paper))

    def test_none(self):
        self.assertEqual(least_steps(row(2), (1,), 1), ("none", [((), 0), ((0,), 1)]))
        self.assertEqual(least_steps(((), ()), (0, 1), 1), ("none", [((), 0), ((0,), 1), ((1,), 1)]))

    def test_works_done_again_where_rooms_are_few(self):
        told = [self.check(TWICE, (6,), rooms) for rooms in range(1, 9)]
        self.assertEqual(told, [None, None, 8, 7, 7, 7, 7, 7])

    def test_one_room_as_many_as_works_and_more(self):
        for net, asked in asks(SMALL, 1, 2):
            for rooms in (1, len(net), len(net) + 1, 400):
                self.check(net, asked, rooms)
            self.assertEqual(least_steps(net, asked, len(net))[2], len(all_needed(net, asked)))

    def test_by_going_through_all_stands(self):
        for net, asked in asks(SMALL, 2):
            for rooms in range(1, len(net)):
                self.check(net, asked, rooms)

    def test_one_to_four_asked_works(self):
        for asked in ((6,), (2, 6), (1, 2, 6), (0, 1, 2, 6), (3, 4, 5, 6), (1, 2, 3, 4)):
            for rooms in range(1, 8):
                told = self.check(TWICE, asked, rooms)
                self.assertTrue(told is None or rooms >= len(asked))

    def test_a_clear_never_counts(self):
        # The result 0 must be cleared, and the number of the stand behind that is no greater.
        told = least_steps(row(3), (2,), 2)
        self.assertEqual(told[2], 3)
        self.assertIn(((1,), 2), told[3])
        self.assertIn(((2,), 3), told[3])

    def test_nets_of_ten_works(self):
        dice = random.Random(82)
        nets = [row(10), all_ahead(10), square(2, 5), square(5, 2), LEANT_ON + ((6, 7),), ladder(4)]
        nets += [chance_net(dice, 10) for _ in range(6)]
        for net, asked in asks(nets, 3, 1):
            fewest = fewest_by_words(net, asked)
            for rooms in {max(1, fewest - 1), fewest, fewest + 1, 10}:
                self.check(net, asked, rooms)

    def test_the_paper_holds_no_less_than_can_be_come_to(self):
        for rooms in (2, 3, 4):
            paper = least_steps(TWICE, (6,), rooms)[-1]
            self.assertLessEqual(set(reached_by_words(TWICE, rooms)), {pair[0] for pair in paper})

    def test_told_lists_are_the_askers_own(self):
        for rooms in (2, 3, 4):
            one, other = least_steps(TWICE, (6,), rooms), least_steps(TWICE, (6,), rooms)
            self.assertEqual(one, other)
            found = lists_in(one) + lists_in(other)
            self.assertEqual(len({id(part) for part in found}), len(found))
            kept = copy.deepcopy(one)
            spoil(one)
            self.assertEqual(other, kept)
            self.assertEqual(least_steps(TWICE, (6,), rooms), kept)


class TestStair(Told):
    def check_stair(self, net, asked):
        told = stair(net, asked)
        self.assertIs(type(told), list)
        self.assertTrue(all(type(pair) is tuple for pair in told))
        rooms, due = fewest_by_words(net, asked), []
        while not due or due[-1][1] > len(all_needed(net, asked)):
            due.append((rooms, least_by_words(net, asked, rooms)))
            rooms += 1
        self.assertEqual(told, due)

    def test_stairs_as_told(self):
        self.assertEqual(stair(ONE, (0,)), [(1, 1)])
        self.assertEqual(stair(row(10), (9,)), [(2, 10)])
        self.assertEqual(stair(all_ahead(10), (9,)), [(10, 10)])
        self.assertEqual(stair(TWICE, (6,)), [(3, 8), (4, 7)])
        self.assertEqual(stair(((),) * 10, (1, 2, 7, 8)), [(4, 4)])

    def test_works_that_are_not_needed(self):
        self.assertEqual(stair(row(10), (0,)), [(1, 1)])
        self.assertEqual(stair(TWICE + ((6,), (7,), ()), (6,)), [(3, 8), (4, 7)])

    def test_by_going_through_all_stands(self):
        for net, asked in asks(SMALL, 4, 4):
            self.check_stair(net, asked)

    def test_nets_of_ten_works(self):
        dice = random.Random(83)
        nets = [row(10), square(2, 5), square(5, 2), ladder(4), TWICE + ((6,), (5, 7), (2, 8))]
        nets += [chance_net(dice, 10, 2) for _ in range(12)]
        for net, asked in asks(nets, 5, 2):
            self.check_stair(net, asked)

    def test_a_stair_of_many_steps(self):
        told = stair(BACK_AND_FORTH, (8,))
        self.assertGreaterEqual(len(told), 3)
        self.check_stair(BACK_AND_FORTH, (8,))

    def test_told_lists_are_the_askers_own(self):
        told = stair(TWICE, (6,))
        kept = list(told)
        told.clear()
        again = stair(TWICE, (6,))
        self.assertEqual(again, kept)
        self.assertIsNot(again, told)


if __name__ == "__main__":
    unittest.main()
