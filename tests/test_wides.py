import copy
import itertools
import random
import unittest

from fewrooms.errors import NoTree, RoomError
from fewrooms.nets import all_needed, is_tree, levels
from fewrooms.trees import tree_rooms
from fewrooms.wides import stretched, taken_by, wide_order, wide_rooms
from samples import (LEANT_ON, MIXED, NAMED, ONE, all_ahead, chance_net, chance_nets, chance_tree, full_tree, ladder, row,
                     square)

# Two chains whose widths fall and rise: 0, 1 and 2, then 3, 4 and 5; 6 needs both ends.
CHAINS = ((), (0,), (1,), (), (3,), (4,), (2, 5))


def chance_wides(dice, net):
    """Widths all 1, 1 to 5, 1 to 99, in leaps, or wide and narrow by turns; some with great ones near the last work."""
    most, turn = dice.choice((1, 5, 99, 0, None)), dice.choice((0, 1))
    if most is None:
        wides = [dice.randint(30, 99) if level % 2 == turn else dice.randint(1, 9) for level in levels(net)]
    else:
        wides = [dice.randint(1, most) if most else dice.choice((1, 1, 2, 3, 8, 20, 40, 99)) for _ in net]
    if dice.random() < 0.2:
        for work in range(max(0, len(net) - 3), len(net)):
            wides[work] = dice.choice((50, 98, 99))
    return tuple(wides)


def chance_chains(dice, many, longest):
    """Chains of drawn lengths, whose ends one work needs; maybe the same with a further chain behind it."""
    net, ends = [], []
    for _ in range(many):
        for place in range(dice.randint(1, longest)):
            net.append((len(net) - 1,) if place else ())
        ends.append(len(net) - 1)
    net.append(tuple(ends))
    if dice.random() < 0.5:
        net += [(), (len(net) - 1, len(net))]
    return tuple(net)


def taken_by_words(net, wides, order):
    told = []
    for place, work in enumerate(order):
        wanted = {need for later in order[place:] for need in net[later]}
        told.append(wides[work] + sum(wides[one] for one in order[:place] if one in wanted))
    return told


def chance_order(dice, net, work):
    """A drawn order of a work."""
    due, order = all_needed(net, (work,)), []
    while due:
        free = [one for one in due if set(net[one]) <= set(order)]
        order.append(dice.choice(free))
        due.remove(order[-1])
    return order


def all_orders(net, work):
    needed = all_needed(net, (work,))
    for order in itertools.permutations(needed):
        seen = set()
        for one in order:
            if not set(net[one]) <= seen:
                break
            seen.add(one)
        else:
            yield list(order)


def fewest_by_orders(net, wides, work):
    """The fewest rooms over all orders, found by the sets of works that are done."""
    needed = all_needed(net, (work,))
    best = {frozenset(): 0}
    for _ in needed:
        further = {}
        for done, rooms in best.items():
            wanted = {need for one in needed if one not in done for need in net[one]}
            kept = sum(wides[one] for one in done & wanted)
            for one in needed:
                if one not in done and set(net[one]) <= done:
                    more = max(rooms, kept + wides[one])
                    behind = done | {one}
                    further[behind] = min(more, further.get(behind, more))
        best = further
    return best[frozenset(needed)]


def stretch_by_words(net, wides, work):
    def worth(need):
        return max(taken_by_words(net, wides, stretch_by_words(net, wides, need))) - wides[need]
    order = []
    for need in sorted(net[work], key=lambda one: (-worth(one), one)):
        order += stretch_by_words(net, wides, need)
    return order + [work]


def all_stretches(net, work):
    """All orders in which each work has all that it needs in one stretch ahead of it."""
    for needs in itertools.permutations(net[work]):
        for parts in itertools.product(*[list(all_stretches(net, need)) for need in needs]):
            yield sum(parts, []) + [work]


def trees(seed, many, most_works, longest):
    dice = random.Random(seed)
    for _ in range(many):
        if dice.random() < 0.5:
            net = chance_tree(dice, dice.randint(1, most_works), dice.randint(1, 4))
        else:
            net = chance_chains(dice, dice.randint(1, 3), longest)
        yield dice, net, chance_wides(dice, net), len(net) - 1


class Orders(unittest.TestCase):
    def check_order(self, net, work, order):
        self.assertIs(type(order), list)
        self.assertEqual(sorted(order), all_needed(net, (work,)))
        for place, one in enumerate(order):
            self.assertIs(type(one), int)
            self.assertLessEqual(set(net[one]), set(order[:place]))


class TestTakenBy(Orders):
    def test_as_told(self):
        self.assertEqual(taken_by(ONE, (7,), 0, [0]), [7])
        self.assertEqual(taken_by(row(4), (1, 2, 3, 4), 3, [0, 1, 2, 3]), [1, 3, 5, 7])
        self.assertEqual(taken_by(((), (), (0, 1)), (10, 3, 4), 2, [0, 1, 2]), [10, 13, 17])
        self.assertEqual(taken_by(((), (), (0, 1)), (10, 3, 4), 2, [1, 0, 2]), [3, 13, 17])
        self.assertEqual(taken_by(CHAINS, (9, 1, 5, 9, 1, 5, 2), 6, [0, 1, 2, 3, 4, 5, 6]), [9, 10, 6, 14, 15, 11, 12])
        self.assertEqual(taken_by(CHAINS, (9, 1, 5, 9, 1, 5, 2), 6, [0, 1, 3, 4, 2, 5, 6]), [9, 10, 10, 11, 7, 11, 12])

    def test_a_result_that_many_need(self):
        # 0 is kept till 5 is done, the last one that needs it.
        self.assertEqual(taken_by(MIXED, (1, 10, 20, 30, 99, 40), 5, [0, 2, 1, 3, 5]), [1, 21, 31, 61, 71])
        self.assertEqual(taken_by(MIXED, (1, 10, 20, 30, 99, 40), 3, [0, 1, 2, 3]), [1, 11, 31, 60])
        self.assertEqual(taken_by(all_ahead(4), (1, 2, 4, 8), 3, [0, 1, 2, 3]), [1, 3, 7, 15])

    def test_of_any_net_by_words(self):
        dice = random.Random(181)
        for net in list(NAMED)[:5] + [square(3, 4), ladder(4), all_ahead(6)] + chance_nets(182, 150, 12):
            for _ in range(3):
                wides, work = chance_wides(dice, net), dice.randrange(len(net))
                order = chance_order(dice, net, work)
                kept = list(order)
                told = taken_by(net, wides, work, order)
                self.assertIs(type(told), list)
                self.assertEqual(told, taken_by_words(net, wides, order))
                self.assertEqual(order, kept)
                told.clear()
                self.assertEqual(taken_by(net, wides, work, order), taken_by_words(net, wides, order))

    def test_nets_of_sixty_works(self):
        dice = random.Random(183)
        for net in [row(60), all_ahead(60), square(6, 10)] + [chance_net(dice, 60, 4) for _ in range(5)]:
            wides, order = chance_wides(dice, net), chance_order(dice, net, 59)
            self.assertEqual(taken_by(net, wides, 59, order), taken_by_words(net, wides, order))


class TestStretched(Orders):
    def check(self, net, wides, work):
        told = stretched(net, wides, work)
        self.assertIs(type(told), tuple)
        rooms, order = told
        self.assertIs(type(rooms), int)
        self.check_order(net, work, order)
        self.assertEqual(order, stretch_by_words(net, wides, work), (net, wides))
        self.assertEqual(rooms, max(taken_by(net, wides, work, order)))
        return told

    def test_as_told(self):
        self.assertEqual(stretched(ONE, (7,), 0), (7, [0]))
        self.assertEqual(stretched(row(4), (1, 2, 3, 4), 3), (7, [0, 1, 2, 3]))
        # 2 takes 13 rooms and keeps 4, 4 takes 9 and keeps 3.
        self.assertEqual(stretched(((), (), (0, 1), (), (3,), (2, 4)), (5, 4, 4, 6, 3, 1), 5), (13, [0, 1, 2, 3, 4, 5]))
        self.assertEqual(stretched(((), (0,), (), (), (2, 3), (1, 4)), (6, 3, 5, 4, 4, 1), 5), (13, [2, 3, 4, 0, 1, 5]))

    def test_by_rooms_less_width_not_by_rooms(self):
        # 0 takes 20 rooms and keeps them all; 2 takes 11 and keeps 1: so 2 goes first.
        self.assertEqual(self.check(((), (), (1,), (0, 2)), (20, 10, 1, 1), 3), (22, [1, 2, 0, 3]))

    def test_alike_worth_by_the_lesser_work(self):
        # 0 and 3 are worth nothing, 2 is worth as much as its own need.
        self.assertEqual(self.check(((), (), (1,), (), (0, 2, 3)), (9, 4, 5, 7, 1), 4)[1], [1, 2, 0, 3, 4])
        self.assertEqual(self.check(((),) * 5 + ((0, 1, 2, 3, 4),), (5, 4, 3, 2, 1, 9), 5)[1], [0, 1, 2, 3, 4, 5])
        # Both chains are worth 4, with unlike rooms and widths.
        self.assertEqual(self.check(((), (), (0,), (1,), (2, 3)), (4, 4, 9, 2, 1), 4)[1], [0, 2, 1, 3, 4])
        self.assertEqual(self.check(((), (), (1,), (0,), (2, 3)), (4, 4, 2, 9, 1), 4)[1], [1, 2, 0, 3, 4])

    def test_works_other_than_the_last(self):
        wides = (3, 5, 1, 9, 2, 4, 6, 7, 8)
        for work in range(len(LEANT_ON)):
            if is_tree(LEANT_ON, work):
                self.check(LEANT_ON, wides, work)

    def test_by_words(self):
        for dice, net, wides, work in trees(184, 300, 12, 4):
            self.check(net, wides, work)
            other = dice.randrange(len(net))
            self.check(net, wides, other)

    def test_no_order_in_stretches_has_fewer(self):
        for dice, net, wides, work in trees(185, 150, 7, 3):
            rooms = min(max(taken_by_words(net, wides, order)) for order in all_stretches(net, work))
            self.assertEqual(stretched(net, wides, work)[0], rooms)

    def test_great_trees(self):
        dice = random.Random(186)
        star = ((),) * 59 + (tuple(range(59)),)
        for net in (row(60), star, full_tree(4) + ((30,),), chance_tree(dice, 60)):
            rooms, order = stretched(net, chance_wides(dice, net), len(net) - 1)
            self.check_order(net, len(net) - 1, order)
        self.assertEqual(stretched(star, (99,) * 60, 59), (60 * 99, list(range(60))))
        self.assertEqual(stretched(row(400), (1,) * 400, 399), (2, list(range(400))))

    def test_told_lists_are_the_askers_own(self):
        wides = (9, 1, 5, 9, 1, 5, 2)
        one, other = stretched(CHAINS, wides, 6), stretched(CHAINS, wides, 6)
        self.assertIsNot(one[1], other[1])
        kept = copy.deepcopy(one)
        one[1].clear()
        self.assertEqual((other, stretched(CHAINS, wides, 6)), (kept, kept))


class TestWideRooms(Orders):
    def check(self, net, wides, work):
        rooms, order = wide_rooms(net, wides, work), wide_order(net, wides, work)
        self.assertIs(type(rooms), int)
        self.check_order(net, work, order)
        self.assertEqual(max(taken_by_words(net, wides, order)), rooms)
        self.assertLessEqual(rooms, stretched(net, wides, work)[0])
        return rooms

    def test_as_told(self):
        self.assertEqual(wide_rooms(ONE, (7,), 0), 7)
        self.assertEqual(wide_order(ONE, (7,), 0), [0])
        self.assertEqual(self.check(row(4), (1, 2, 3, 4), 3), 7)
        self.assertEqual(wide_order(row(4), (1, 2, 3, 4), 3), [0, 1, 2, 3])
        self.assertEqual(self.check(((), (), (0, 1)), (10, 3, 4), 2), 17)

    def test_fewer_than_in_stretches(self):
        # Both chains are done up to where they are narrow, ahead of either one's end.
        wides = (9, 1, 5, 9, 1, 5, 2)
        self.assertEqual(stretched(CHAINS, wides, 6)[0], 15)
        self.assertEqual(self.check(CHAINS, wides, 6), 12)
        self.assertEqual(fewest_by_orders(CHAINS, wides, 6), 12)

    def test_by_all_orders_one_by_one(self):
        for dice, net, wides, work in trees(187, 150, 7, 3):
            if len(net) <= 7:
                rooms = min(max(taken_by_words(net, wides, order)) for order in all_orders(net, work))
                self.assertEqual(self.check(net, wides, work), rooms, (net, wides))
                self.assertEqual(fewest_by_orders(net, wides, work), rooms)

    def test_small_trees(self):
        fewer = 0
        for dice, net, wides, work in trees(188, 1500, 12, 5):
            rooms = self.check(net, wides, work)
            self.assertEqual(rooms, fewest_by_orders(net, wides, work), (net, wides))
            fewer += rooms < stretched(net, wides, work)[0]
        self.assertGreater(fewer, 20)

    def test_small_trees_of_two_chains(self):
        dice = random.Random(189)
        fewer = 0
        for _ in range(800):
            net = chance_chains(dice, 2, 5)
            wides = tuple(dice.choice((1, 2, 3, 8, 20, 40, 99)) for _ in net)
            rooms = self.check(net, wides, len(net) - 1)
            self.assertEqual(rooms, fewest_by_orders(net, wides, len(net) - 1), (net, wides))
            fewer += rooms < stretched(net, wides, len(net) - 1)[0]
        self.assertGreater(fewer, 10)

    def test_works_other_than_the_last(self):
        dice = random.Random(190)
        for net in [LEANT_ON, MIXED] + chance_nets(191, 60, 9):
            wides = chance_wides(dice, net)
            for work in range(len(net)):
                if is_tree(net, work):
                    self.assertEqual(self.check(net, wides, work), fewest_by_orders(net, wides, work))

    def test_great_trees(self):
        dice = random.Random(192)
        star = ((),) * 59 + (tuple(range(59)),)
        nets = [row(60), star, full_tree(4), chance_chains(dice, 3, 19)] + [chance_tree(dice, 60) for _ in range(8)]
        nets += [chance_chains(dice, 5, 11) for _ in range(8)]
        for net in nets:
            for _ in range(3):
                wides, work = chance_wides(dice, net), len(net) - 1
                rooms = self.check(net, wides, work)
                for _ in range(40):
                    self.assertLessEqual(rooms, max(taken_by_words(net, wides, chance_order(dice, net, work))))

    def test_rows_and_stars(self):
        dice = random.Random(193)
        for many in (1, 2, 3, 30, 60):
            net = row(many)
            wides = chance_wides(dice, net)
            self.assertEqual(self.check(net, wides, many - 1), max(
                wides[work] + (wides[work - 1] if work else 0) for work in range(many)))
            star = ((),) * (many - 1) + (tuple(range(many - 1)),)
            self.assertEqual(self.check(star, wides, many - 1), sum(wides))

    def test_two_long_chains_by_all_ways_to_mix_them(self):
        dice = random.Random(194)
        for _ in range(10):
            net = row(29) + tuple((28 + place,) if place else () for place in range(30)) + ((28, 58),)
            wides = tuple(dice.choice((1, 2, 3, 8, 20, 40, 99)) for _ in net)
            self.assertEqual(self.check(net, wides, 59), fewest_by_orders(net, wides, 59))

    def test_widths_all_one(self):
        dice = random.Random(195)
        for net in [ONE, row(9), full_tree(4), LEANT_ON[:7]] + [chance_tree(dice, dice.randint(1, 60)) for _ in range(60)]:
            self.assertEqual(self.check(net, (1,) * len(net), len(net) - 1), tree_rooms(net, len(net) - 1))

    def test_told_lists_are_the_askers_own(self):
        wides = (9, 1, 5, 9, 1, 5, 2)
        one, other = wide_order(CHAINS, wides, 6), wide_order(CHAINS, wides, 6)
        self.assertEqual(one, other)
        self.assertIsNot(one, other)
        one.clear()
        self.assertEqual(wide_order(CHAINS, wides, 6), other)


class TestNoTree(unittest.TestCase):
    def check(self, net, work):
        for ask in (stretched, wide_rooms, wide_order):
            with self.assertRaises(RoomError) as caught:
                ask(net, (1,) * len(net), work)
            self.assertIs(type(caught.exception), NoTree)

    def test_nets_that_are_none(self):
        self.check(MIXED, 3)
        self.check(MIXED, 5)
        self.check(square(2, 2), 3)
        self.check(all_ahead(60), 59)

    def test_just_where_is_tree_is_false(self):
        for net in [MIXED, LEANT_ON, full_tree(3), square(3, 4), ladder(3)] + chance_nets(196, 60, 10):
            for work in range(len(net)):
                if is_tree(net, work):
                    for ask in (stretched, wide_rooms, wide_order):
                        ask(net, (2,) * len(net), work)
                else:
                    self.check(net, work)


if __name__ == "__main__":
    unittest.main()
