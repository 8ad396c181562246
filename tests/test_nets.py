import random
import unittest

from fewrooms.nets import all_needed, beside, ends_of, is_net, is_tree, levels, part_net, users_of
from samples import (LEANT_ON, MIXED, NAMED, ODD_THINGS, ONE, all_ahead, chance_asked, chance_nets, full_tree, is_a_net,
                     ladder, nested, row, square)

NETS = list(NAMED) + chance_nets(11, 60, 12)


def needed_by_walking(net, asked):
    """All that is needed, found step by step upward from the asked ones."""
    found, due = set(), list(asked)
    while due:
        work = due.pop()
        if work not in found:
            found.add(work)
            due.extend(net[work])
    return sorted(found)


def tree_by_words(net, work):
    these = needed_by_walking(net, (work,))
    return all(sum(1 for user in these if other in net[user]) == 1 for other in these if other != work)


def parts(dice, net):
    many = dice.randint(1, len(net))
    return tuple(sorted(dice.sample(range(len(net)), many)))


class TestIsNet(unittest.TestCase):
    def test_nets(self):
        for net in NETS + [row(1000), ((),) * 1000, all_ahead(400), tuple(tuple(range(k % 7)) for k in range(1000))]:
            self.assertIs(is_net(net), is_a_net(net))
            self.assertIs(is_net(net), True)

    def test_no_work_at_all(self):
        self.assertIs(is_net(()), False)

    def test_lists_in_the_place_of_tuples(self):
        for thing in ([()], [(), (0,)], ([],), ((), [0]), ((), (), [0, 1]), ([], (0,)), ((), (), (0, 1), [])):
            self.assertIs(is_net(thing), False, thing)

    def test_wrong_needs(self):
        for thing in (
            ((0,),), ((1,), ()), ((), (1,)), ((), (2,), ()), ((), (5,)), ((), (0, 1)), ((), (), (0, 3), ()),
            ((), (-1,)), ((), (), (-1, 0)), ((), (), (-2,)),
            ((), (0, 0)), ((), (), (0, 0, 1)), ((), (), (1, 1)), ((), (), (1, 0)), ((), (), (), (0, 2, 1)),
        ):
            self.assertIs(is_net(thing), False, thing)

    def test_needs_of_other_kinds(self):
        for wrong in (True, False, "0", "", None, (), (0,), [], [0], ((),)):
            for thing in (((), (), (wrong,)), ((), (), (0, wrong)), ((), (), (wrong, 1)), (((wrong,)),), ((), wrong, 3)):
                self.assertIs(is_net(thing), False, thing)
        for wrong in (True, False, "", "0", None, 0, 1, [], [0]):
            for thing in (((), (), wrong), (wrong,), (wrong, ())):
                self.assertIs(is_net(thing), False, thing)

    def test_a_wrong_work_at_the_end_of_a_long_net(self):
        for wrong in ((399, 398), (400,), [], (0, 0), (True,)):
            self.assertIs(is_net(row(400) + (wrong,)), False, wrong)

    def test_odd_things(self):
        for thing in ODD_THINGS:
            self.assertIs(is_net(thing), is_a_net(thing), thing)

    def test_things_within_one_another(self):
        for depth in range(21):
            for kind in (tuple, list):
                for core in (0, True, None, "", ()):
                    thing = nested(core, depth, kind)
                    self.assertIs(is_net(thing), thing == ((),), thing)

    def test_what_is_asked_stays(self):
        thing = [(), [0], (1, 0)]
        is_net(thing)
        self.assertEqual(thing, [(), [0], (1, 0)])


class TestUsersAndEnds(unittest.TestCase):
    def test_users(self):
        self.assertEqual(users_of(MIXED, 0), [1, 2, 5])
        self.assertEqual(users_of(MIXED, 2), [3, 4])
        self.assertEqual(users_of(MIXED, 4), [])
        self.assertEqual(users_of(ONE, 0), [])
        self.assertEqual(users_of(LEANT_ON, 4), [6, 7])
        self.assertEqual(users_of(row(400), 398), [399])
        self.assertEqual(users_of(row(400), 399), [])
        self.assertEqual(users_of(all_ahead(400), 0), list(range(1, 400)))

    def test_ends(self):
        self.assertEqual(ends_of(MIXED), [4, 5])
        self.assertEqual(ends_of(LEANT_ON), [6, 7, 8])
        self.assertEqual(ends_of(ONE), [0])
        self.assertEqual(ends_of(((),) * 7), list(range(7)))
        self.assertEqual(ends_of(row(400)), [399])
        self.assertEqual(ends_of(ladder(3)), [6, 7])
        self.assertEqual(ends_of(square(3, 4)), [11])

    def test_by_words(self):
        for net in NETS:
            ends = []
            for work in range(len(net)):
                users = [user for user in range(len(net)) if work in net[user]]
                if len(net) < 50:
                    self.assertEqual(users_of(net, work), users)
                if not users:
                    ends.append(work)
            self.assertEqual(ends_of(net), ends)


class TestNeededAndLevels(unittest.TestCase):
    def test_needed(self):
        self.assertEqual(all_needed(MIXED, (3,)), [0, 1, 2, 3])
        self.assertEqual(all_needed(MIXED, (4,)), [0, 2, 4])
        self.assertEqual(all_needed(MIXED, (0,)), [0])
        self.assertEqual(all_needed(ONE, (0,)), [0])
        self.assertEqual(all_needed(row(400), (399,)), list(range(400)))
        self.assertEqual(all_needed(row(400), (0, 7)), list(range(8)))
        self.assertEqual(all_needed(LEANT_ON, (2, 7, 8)), [0, 1, 2, 3, 4, 7, 8])

    def test_asked_works_that_need_one_another(self):
        self.assertEqual(all_needed(MIXED, (0, 2, 3, 5)), [0, 1, 2, 3, 5])
        self.assertEqual(all_needed(row(6), (1, 2, 4)), [0, 1, 2, 3, 4])

    def test_needed_by_walking(self):
        dice = random.Random(5)
        for net in NETS:
            for _ in range(5):
                asked = chance_asked(dice, net)
                self.assertEqual(all_needed(net, asked), needed_by_walking(net, asked))

    def test_levels(self):
        self.assertEqual(levels(MIXED), [0, 1, 1, 2, 2, 3])
        self.assertEqual(levels(LEANT_ON), [0, 0, 1, 0, 1, 0, 2, 2, 0])
        self.assertEqual(levels(ONE), [0])
        self.assertEqual(levels(((),) * 3), [0, 0, 0])
        self.assertEqual(levels(row(400)), list(range(400)))
        self.assertEqual(levels(all_ahead(400)), list(range(400)))
        self.assertEqual(levels(square(3, 4)), [i + j for i in range(3) for j in range(4)])


class TestParts(unittest.TestCase):
    def test_parts(self):
        self.assertEqual(part_net(MIXED, (0, 2, 3, 5)), ((), (0,), (1,), (0, 2)))
        self.assertEqual(part_net(MIXED, (3, 5)), ((), (0,)))
        self.assertEqual(part_net(MIXED, (5,)), ((),))
        self.assertEqual(part_net(row(400), tuple(range(0, 400, 2))), ((),) * 200)
        self.assertEqual(part_net(row(400), tuple(range(100, 400))), row(300))
        self.assertEqual(part_net(ONE, (0,)), ONE)

    def test_the_whole_is_a_part(self):
        for net in NETS:
            self.assertEqual(part_net(net, tuple(range(len(net)))), net)

    def test_parts_are_nets_with_the_needs_that_are_left(self):
        dice = random.Random(6)
        for net in NETS:
            works = parts(dice, net)
            part = part_net(net, works)
            self.assertTrue(is_a_net(part))
            self.assertEqual([[works[need] for need in needs] for needs in part],
                             [[need for need in net[work] if need in works] for work in works])

    def test_parts_of_parts(self):
        dice = random.Random(7)
        for net in NETS:
            works = parts(dice, net)
            inner = parts(dice, works)
            both = tuple(works[number] for number in inner)
            self.assertEqual(part_net(part_net(net, works), inner), part_net(net, both))


class TestTreesAndBeside(unittest.TestCase):
    def test_trees(self):
        for net, work in ((ONE, 0), (row(400), 399), (full_tree(3), 14), (MIXED, 1), (MIXED, 0), (MIXED, 4)):
            self.assertIs(is_tree(net, work), True, (net, work))

    def test_a_tree_that_others_lean_on(self):
        self.assertIs(is_tree(LEANT_ON, 6), True)
        self.assertIs(is_tree(LEANT_ON, 7), True)
        self.assertIs(is_tree(LEANT_ON, 8), True)
        self.assertIs(is_tree(beside(full_tree(2), row(3)) + ((0, 4, 6), (0,)), 6), True)

    def test_no_trees(self):
        for net, work in ((MIXED, 3), (MIXED, 5), (square(2, 2), 3), (all_ahead(3), 2), (ladder(1) + ((2, 3),), 4)):
            self.assertIs(is_tree(net, work), False, (net, work))

    def test_trees_by_words(self):
        for net in NETS:
            for work in range(len(net) if len(net) < 50 else 3):
                self.assertIs(is_tree(net, work), tree_by_words(net, work))

    def test_beside(self):
        self.assertEqual(beside(ONE, ONE), ((), ()))
        self.assertEqual(beside(row(3), square(2, 2)), ((), (0,), (1,), (), (3,), (3,), (4, 5)))
        self.assertEqual(beside(square(2, 2), row(2)), ((), (0,), (0,), (1, 2), (), (4,)))

    def test_both_are_parts_of_what_stands_beside(self):
        for one, other in zip(NETS, NETS[1:]):
            both = beside(one, other)
            self.assertTrue(is_a_net(both))
            self.assertEqual(len(both), len(one) + len(other))
            self.assertEqual(part_net(both, tuple(range(len(one)))), one)
            self.assertEqual(part_net(both, tuple(range(len(one), len(both)))), other)
            self.assertEqual(ends_of(both), ends_of(one) + [end + len(one) for end in ends_of(other)])


class TestTold(unittest.TestCase):
    def test_told_lists_are_the_askers_own(self):
        for net in NETS:
            asks = (lambda: users_of(net, 0), lambda: all_needed(net, (0, len(net) - 1)[:len(net)]),
                    lambda: levels(net), lambda: ends_of(net))
            for ask in asks:
                told = ask()
                kept = list(told)
                self.assertIs(type(told), list)
                self.assertIsNot(ask(), told)
                told.append(99)
                told[0] = -5
                self.assertEqual(ask(), kept)

    def test_nets_stay(self):
        for net in NETS:
            before = repr(net)
            for ask in (is_net, levels, ends_of):
                ask(net)
            for ask in (users_of, is_tree):
                ask(net, len(net) - 1)
            all_needed(net, (0,))
            part_net(net, (0,))
            beside(net, net)
            self.assertEqual(repr(net), before)


if __name__ == "__main__":
    unittest.main()
