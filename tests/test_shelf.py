import copy
import itertools
import random
import unittest

from fewrooms.errors import Barred, RoomError
from fewrooms.shelf import far_cost, far_fault, far_moved, least_far
from samples import (MIXED, ONE, all_ahead, asks, chance_asked, chance_net, cost_by_words, far_moves_by_words,
                     far_place_behind, far_reached_by_words, ladder, least_by_words, lists_in, row, spoil,
                     square)

WORDS = ("do", "clear", "put", "fetch")
COSTS = ((1, 1, 1), (0, 0, 0), (1, 0, 0), (0, 1, 1), (5, 1, 1), (99, 0, 99), (1, 99, 99), (3, 7, 0), (0, 0, 5), (99, 99, 99))
# For 5 in three rooms, 0 must be done twice, or lie on the shelf.
TWICE = ((), (0,), (0,), (1,), (2, 3), (0, 4))
# 3 needs 1 and 2, both need 0; 4 needs 3.
NET = ((), (0,), (0,), (1, 2), (3,))
SMALL = [ONE, ((), ()), ((), (0,)), row(4), all_ahead(4), square(2, 2), ((), (), (0, 1)), ((),) * 4, NET, TWICE]


def drawn(seed, many, most_works):
    dice = random.Random(seed)
    for _ in range(many):
        net = chance_net(dice, dice.randint(1, most_works))
        costs = tuple(dice.choice((0, 0, 1, 2, 5, 50, 98, 99)) for _ in range(3))
        yield net, chance_asked(dice, net), dice.randint(1, len(net) + 1), costs


def places(dice, net, rooms, many):
    """Drawn places, such as are come to and others."""
    for _ in range(many):
        near = dice.sample(range(len(net)), dice.randint(0, min(rooms, len(net))))
        far = dice.sample(range(len(net)), dice.randint(0, len(net)))
        yield tuple(sorted(near)), tuple(sorted(far))


def fault_by_words(net, rooms, place, move):
    near, far = map(set, place)
    word, work = move
    due = {
        "do": [("there", work in near), ("needs", not set(net[work]) <= near), ("full", len(near) >= rooms)],
        "clear": [("empty", work not in near)],
        "put": [("empty", work not in near), ("far", work in far)],
        "fetch": [("there", work in near), ("near", work not in far), ("full", len(near) >= rooms)],
    }[word]
    return next((fault for fault, is_due in due if is_due), None)


class TestFarFault(unittest.TestCase):
    def check(self, rooms, place, move, word, net=NET):
        before = copy.deepcopy((net, place, move))
        self.assertEqual(far_fault(net, rooms, place, move), word)
        if word is None:
            behind = far_moved(net, rooms, place, move)
            self.assertEqual(behind, dict(far_moves_by_words(net, rooms, place))[move])
            self.assertEqual([type(behind), type(behind[0]), type(behind[1])], [tuple] * 3)
        else:
            with self.assertRaises(RoomError) as caught:
                far_moved(net, rooms, place, move)
            self.assertIs(type(caught.exception), Barred)
            self.assertEqual((caught.exception.move, caught.exception.word), (0, word))
        self.assertEqual((net, place, move), before)

    def test_do(self):
        self.check(1, ((), ()), ("do", 0), None)
        self.check(2, ((0,), ()), ("do", 1), None)
        self.check(2, ((0,), ()), ("do", 0), "there")
        self.check(2, ((1,), (0,)), ("do", 0), None)
        self.check(3, ((1,), ()), ("do", 3), "needs")
        self.check(2, ((1, 2), ()), ("do", 3), "full")

    def test_do_by_near_alone(self):
        # What lies on the shelf is neither there nor does it help a do.
        self.check(3, ((), (0,)), ("do", 0), None)
        self.check(3, ((), (0,)), ("do", 1), "needs")
        self.check(3, ((1,), (2,)), ("do", 3), "needs")
        self.check(3, ((1, 2), (0, 3, 4)), ("do", 3), None)

    def test_do_the_one_due_first(self):
        self.check(1, ((1,), ()), ("do", 1), "there")
        self.check(1, ((3,), ()), ("do", 3), "there")
        self.check(1, ((0,), ()), ("do", 0), "there")
        self.check(1, ((1,), ()), ("do", 3), "needs")
        self.check(1, ((0,), ()), ("do", 1), "full")

    def test_clear(self):
        self.check(1, ((0,), ()), ("clear", 0), None)
        self.check(2, ((0, 1), (0, 1)), ("clear", 1), None)
        self.check(1, ((), ()), ("clear", 0), "empty")
        self.check(1, ((), (0,)), ("clear", 0), "empty")
        self.check(2, ((1,), (0,)), ("clear", 0), "empty")

    def test_put(self):
        self.check(1, ((0,), ()), ("put", 0), None)
        self.check(2, ((0, 3), (1, 4)), ("put", 3), None)
        self.check(1, ((), ()), ("put", 0), "empty")
        self.check(1, ((0,), (0,)), ("put", 0), "far")
        # Both are due.
        self.check(1, ((), (0,)), ("put", 0), "empty")
        self.check(1, ((1,), (0,)), ("put", 0), "empty")

    def test_fetch(self):
        self.check(1, ((), (0,)), ("fetch", 0), None)
        self.check(2, ((4,), (1, 3)), ("fetch", 3), None)
        self.check(2, ((0,), (0,)), ("fetch", 0), "there")
        self.check(1, ((), ()), ("fetch", 0), "near")
        self.check(1, ((0,), (1,)), ("fetch", 1), "full")
        # A fetch wants no needs.
        self.check(1, ((), (4,)), ("fetch", 4), None)

    def test_fetch_the_one_due_first(self):
        self.check(1, ((0,), ()), ("fetch", 0), "there")
        self.check(1, ((0,), (0,)), ("fetch", 0), "there")
        self.check(2, ((0,), ()), ("fetch", 0), "there")
        self.check(1, ((1,), ()), ("fetch", 0), "near")
        self.check(1, ((1,), (2,)), ("fetch", 0), "near")

    def test_the_place_behind(self):
        self.assertEqual(far_moved(NET, 3, ((0, 2), (3,)), ("do", 1)), ((0, 1, 2), (3,)))
        self.assertEqual(far_moved(NET, 3, ((0, 1, 2), (1,)), ("clear", 1)), ((0, 2), (1,)))
        self.assertEqual(far_moved(NET, 3, ((0, 1), (0, 3)), ("put", 1)), ((0, 1), (0, 1, 3)))
        self.assertEqual(far_moved(NET, 3, ((0, 4), (0, 3)), ("fetch", 3)), ((0, 3, 4), (0, 3)))

    def test_more_rooms_than_works(self):
        self.check(400, ((0, 1, 2), (4,)), ("do", 3), None)
        self.check(400, ((0, 1, 2), (4,)), ("fetch", 4), None)

    def test_by_words(self):
        dice = random.Random(131)
        seen = set()
        for _ in range(60):
            net = chance_net(dice, dice.randint(1, 6))
            rooms = dice.randint(1, len(net) + 1)
            for place in places(dice, net, rooms, 12):
                for move in itertools.product(WORDS, range(len(net))):
                    word = fault_by_words(net, rooms, place, move)
                    self.check(rooms, place, move, word, net)
                    seen.add((move[0], word))
        self.assertEqual(len(seen), 4 + 2 + 3 + 4)


class TestFarCost(unittest.TestCase):
    def test_no_moves(self):
        for costs in COSTS:
            self.assertEqual(far_cost([], costs), 0)

    def test_each_kind(self):
        for word, cost in zip(WORDS, (2, 0, 30, 99)):
            self.assertEqual(far_cost([(word, 0)], (2, 30, 99)), cost)
            self.assertEqual(far_cost([(word, 5)] * 7, (2, 30, 99)), 7 * cost)

    def test_together(self):
        moves = [("do", 0), ("put", 0), ("clear", 0), ("do", 1), ("fetch", 0), ("clear", 1), ("do", 2)]
        self.assertEqual(far_cost(moves, (5, 20, 99)), 3 * 5 + 20 + 99)
        self.assertEqual(far_cost(moves, (0, 0, 0)), 0)
        self.assertEqual(far_cost(moves, (99, 99, 99)), 5 * 99)
        self.assertEqual(far_cost(moves, (0, 0, 1)), 1)
        self.assertEqual(far_cost(moves, (0, 1, 0)), 1)
        self.assertEqual(far_cost(moves, (1, 0, 0)), 3)

    def test_by_words_and_what_is_handed_in_stays(self):
        dice = random.Random(132)
        for costs in COSTS:
            moves = [(dice.choice(WORDS), dice.randrange(6)) for _ in range(dice.randint(0, 40))]
            kept = list(moves)
            self.assertEqual(far_cost(moves, costs), cost_by_words(moves, costs))
            self.assertEqual(moves, kept)


class TestLeastFar(unittest.TestCase):
    def check_paper(self, net, rooms, costs, paper, numbers):
        self.assertIs(type(paper), list)
        for pair in paper:
            self.assertEqual([type(pair), type(pair[0]), type(pair[1])], [tuple, tuple, int])
            self.assertEqual([type(part) for part in pair[0]], [tuple, tuple])
        told = [pair[0] for pair in paper]
        self.assertEqual(told, sorted(set(told)))
        given = dict(paper)
        self.assertEqual(given[((), ())], 0)
        for place, number in paper:
            self.assertLessEqual(len(place[0]), rooms)
            self.assertGreaterEqual(number, 0)
            for move, further in far_moves_by_words(net, rooms, place):
                self.assertLessEqual(given[further], number + cost_by_words([move], costs))
        for place, number in numbers.items():
            self.assertLessEqual(given[place], number)

    def check(self, net, asked, rooms, costs):
        told = least_far(net, asked, rooms, costs)
        self.assertIs(type(told), tuple)
        numbers = far_reached_by_words(net, rooms, costs)
        self.check_paper(net, rooms, costs, told[-1], numbers)
        ends = [place for place in numbers if set(asked) <= set(place[0])]
        if not ends:
            self.assertEqual((len(told), told[0]), (2, "none"))
            self.assertFalse([place for place, number in told[-1] if set(asked) <= set(place[0])])
            return None
        word, moves, cost, paper = told
        self.assertEqual(word, "plan")
        self.assertIs(type(cost), int)
        self.assertEqual(cost, min(numbers[place] for place in ends))
        self.assertIs(type(moves), list)
        self.assertTrue(all(type(move) is tuple for move in moves))
        self.assertLessEqual(set(asked), set(far_place_behind(net, rooms, moves)[0]))
        self.assertEqual(cost_by_words(moves, costs), cost)
        self.assertEqual(far_cost(moves, costs), cost)
        self.assertTrue(all(number >= cost for place, number in paper if set(asked) <= set(place[0])))
        return cost

    def test_one_work(self):
        told = least_far(ONE, (0,), 1, (7, 3, 2))
        self.assertEqual(told, ("plan", [("do", 0)], 7, [
            (((), ()), 0), (((), (0,)), 10), (((0,), ()), 7), (((0,), (0,)), 10)]))

    def test_none(self):
        self.assertEqual(least_far(row(2), (1,), 1, (1, 2, 3)), ("none", [
            (((), ()), 0), (((), (0,)), 3), (((0,), ()), 1), (((0,), (0,)), 3)]))
        for costs in COSTS:
            self.assertIsNone(self.check(((), ()), (0, 1), 1, costs))
            self.assertIsNone(self.check(NET, (3,), 2, costs))
            self.assertIsNone(self.check(NET, (0, 1, 2, 4), 3, costs))

    def test_done_again_or_fetched(self):
        # 1 and 2 both need 0 and 3 needs both, all in three rooms; 0 at the end again.
        self.assertEqual(self.check(NET, (0, 4), 3, (10, 1, 1)), 52)
        self.assertEqual(self.check(NET, (0, 4), 3, (10, 5, 5)), 60)
        self.assertEqual(self.check(NET, (0, 4), 3, (1, 99, 99)), 6)
        self.assertEqual(self.check(NET, (0, 4), 3, (99, 0, 0)), 5 * 99)
        self.assertEqual(self.check(NET, (0, 4), 3, (99, 98, 0)), 5 * 99 + 98)
        self.assertEqual(self.check(NET, (0, 4), 4, (10, 1, 1)), 50)

    def test_the_shelf_saves_rooms(self):
        # Without the shelf four rooms are the fewest: 2 and 3 need both 0 and 1, and 4 needs 2 and 3.
        net = ladder(1) + ((2, 3),)
        self.assertIsNone(least_by_words(net, (4,), 3))
        for costs in COSTS:
            self.assertEqual(self.check(net, (4,), 3, costs), 5 * costs[0] + costs[1] + costs[2])

    def test_costs_of_nought(self):
        for net in SMALL:
            for rooms in range(1, len(net) + 1):
                self.assertIn(self.check(net, (len(net) - 1,), rooms, (0, 0, 0)), (None, 0))

    def test_one_room_as_many_as_works_and_more(self):
        for net, asked in asks(SMALL, 133, 2):
            for rooms in (1, len(net), 400):
                self.check(net, asked, rooms, (3, 2, 1))
            self.assertEqual(least_far(net, asked, len(net), (1, 0, 0))[2], least_by_words(net, asked, len(net)))

    def test_by_going_through_all_places(self):
        for net, asked, rooms, costs in drawn(134, 150, 5):
            self.check(net, asked, rooms, costs)

    def test_costs_of_all_sorts(self):
        for costs in COSTS:
            for net in (NET, TWICE[:5]):
                for asked in ((len(net) - 1,), (0, len(net) - 1)):
                    for rooms in (2, 3):
                        self.check(net, asked, rooms, costs)

    def test_one_to_four_asked_works(self):
        for asked in ((4,), (0, 4), (0, 1, 4), (0, 1, 2, 4), (1, 2, 3, 4)):
            for rooms in range(1, 6):
                told = self.check(NET, asked, rooms, (4, 1, 2))
                self.assertTrue(told is None or rooms >= len(asked))

    def test_nets_of_six_works(self):
        nets = [row(6), all_ahead(6), square(2, 3), ladder(2), MIXED, TWICE, ((),) * 6]
        for net in nets:
            for rooms, costs in ((2, (5, 1, 1)), (3, (2, 1, 0)), (7, (99, 0, 1))):
                self.check(net, (len(net) - 1,), rooms, costs)
        for net, asked, rooms, costs in drawn(135, 8, 6):
            self.check(net, asked, rooms, costs)

    def test_told_lists_are_the_askers_own(self):
        for rooms in (2, 3):
            one, other = least_far(NET, (0, 4), rooms, (5, 1, 1)), least_far(NET, (0, 4), rooms, (5, 1, 1))
            self.assertEqual(one, other)
            found = lists_in(one) + lists_in(other)
            self.assertEqual(len(found), 2 if rooms == 2 else 4)
            self.assertEqual(len({id(part) for part in found}), len(found))
            kept = copy.deepcopy(one)
            spoil(one)
            self.assertEqual(other, kept)
            self.assertEqual(least_far(NET, (0, 4), rooms, (5, 1, 1)), kept)


if __name__ == "__main__":
    unittest.main()
