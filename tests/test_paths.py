import random
import unittest

from fewrooms.errors import RoomError, TooMany
from fewrooms.paths import all_paths, shows_sides, sides_of
from samples import (LEANT_ON, MIXED, NAMED, ODD_THINGS, ONE, all_ahead, chance_net, chance_nets, full_tree, joined,
                     ladder, most_apart, paths_by_words, row, sides_by_words, square)

SMALL = [net for net in NAMED if len(net) < 50] + chance_nets(61, 80, 9)


class TestAllPaths(unittest.TestCase):
    def check_too_many(self, net, work):
        with self.assertRaises(RoomError) as caught:
            all_paths(net, work)
        self.assertIs(type(caught.exception), TooMany)
        self.assertIsInstance(caught.exception, ValueError)

    def test_paths(self):
        self.assertEqual(all_paths(MIXED, 5), [(0, 1, 3, 5), (0, 2, 3, 5), (0, 5)])
        self.assertEqual(all_paths(LEANT_ON, 6), [(0, 2, 6), (1, 2, 6), (3, 4, 6), (5, 6)])
        self.assertEqual(all_paths(all_ahead(4), 3), [(0, 1, 2, 3), (0, 1, 3), (0, 2, 3), (0, 3)])

    def test_a_work_without_needs(self):
        self.assertEqual(all_paths(ONE, 0), [(0,)])
        self.assertEqual(all_paths(LEANT_ON, 8), [(8,)])

    def test_long_rows(self):
        self.assertEqual(all_paths(row(400), 399), [tuple(range(400))])

    def test_by_words(self):
        for net in SMALL:
            for work in range(len(net)):
                told = all_paths(net, work)
                self.assertIs(type(told), list)
                self.assertEqual(told, paths_by_words(net, work))

    def test_just_three_hundred(self):
        flat = ((),) * 300 + (tuple(range(300)),)
        self.assertEqual(all_paths(flat, 300), [(work, 300) for work in range(300)])
        net = joined((3, 10, 10))
        self.assertEqual(all_paths(net, len(net) - 1), paths_by_words(net, len(net) - 1))
        self.assertEqual(len(all_paths(net, len(net) - 1)), 300)

    def test_one_more(self):
        self.check_too_many(((),) * 301 + (tuple(range(301)),), 301)
        net = joined((3, 10, 10))
        self.check_too_many(net + ((0, len(net) - 1),), len(net))
        self.check_too_many(joined((7, 43)), 52)
        self.assertEqual(len(all_paths(joined((7, 43)), 51)), 7)

    def test_very_many(self):
        self.check_too_many(all_ahead(400), 399)
        self.check_too_many(ladder(199), 399)
        self.check_too_many(square(20, 20), 399)
        self.check_too_many(tuple(tuple(range(max(0, k - 20), k)) for k in range(400)), 399)
        self.check_too_many(all_ahead(1500), 1499)

    def test_few_paths_in_a_net_with_very_many(self):
        self.assertEqual(all_paths(all_ahead(400), 5), paths_by_words(all_ahead(6), 5))
        self.assertEqual(len(all_paths(all_ahead(400), 9)), 256)
        self.check_too_many(all_ahead(400), 10)
        self.assertEqual(all_paths(all_ahead(60) + ((),) + ((60,),), 61), [(60, 61)])

    def test_three_hundred_paths_that_are_long(self):
        net = ((),) * 300
        net += (tuple(range(300)),) + tuple((work,) for work in range(300, 399))
        self.assertEqual(all_paths(net, 399), [(work,) + tuple(range(300, 400)) for work in range(300)])

    def test_the_told_list_is_the_askers_own(self):
        told = all_paths(MIXED, 5)
        told.reverse()
        told.pop()
        self.assertEqual(all_paths(MIXED, 5), paths_by_words(MIXED, 5))


class TestSidesOf(unittest.TestCase):
    def check(self, net, path, many=None):
        sides = sides_of(net, path)
        self.assertIs(type(sides), list)
        self.assertIs(shows_sides(net, path, sides), True)
        if len(net) < 20:
            known = sides_by_words(net, path)
            self.assertTrue(all(side in known for side in sides))
        if many is not None:
            self.assertEqual(len(sides), many)
        works = [work for side in sides for work in side]
        self.assertEqual(len(works), len(set(works)))
        self.assertEqual(sides_of(net, path), sides)
        return sides

    def test_as_many_as_can_be(self):
        for net in SMALL:
            if len(net) > 15:
                continue
            for work in range(len(net)):
                for path in paths_by_words(net, work)[:20]:
                    self.check(net, path, most_apart(sides_by_words(net, path)))

    def test_a_path_of_one_work(self):
        self.assertEqual(sides_of(ONE, (0,)), [])
        self.assertEqual(sides_of(LEANT_ON, (3,)), [])

    def test_chains_have_no_sides(self):
        self.assertEqual(sides_of(row(40), tuple(range(40))), [])

    def test_full_trees(self):
        for height in (1, 2, 3, 4):
            net = full_tree(height)
            for path in all_paths(net, len(net) - 1):
                self.check(net, path, height)

    def test_a_side_that_must_give_way(self):
        # The end 6 can be come to through 3 alone, so the side to 5 has to leave 3 for 2.
        net = ((), (), (), (1,), (), (2, 3), (3,), (0, 5, 6))
        self.assertEqual(sorted(self.check(net, (0, 7), 2)), [(1, 3, 6), (2, 5)])
        # Both begin at 1 or 2; 4 takes either, 5 takes 1 alone.
        net = ((), (), (), (0,), (1, 2), (1,), (0, 3, 4, 5))
        self.assertEqual(sorted(self.check(net, (0, 3, 6), 2)), [(1, 5), (2, 4)])

    def test_needs_of_the_first_work_of_a_path_do_not_count(self):
        net = ((), (), (0,), (2,))
        self.assertEqual(sides_of(net, (0, 2, 3)), [])

    def test_a_need_that_can_only_be_come_to_over_the_path(self):
        self.assertEqual(sides_of(MIXED, (0, 1, 3, 5)), [])
        self.assertEqual(sides_of(square(2, 2), (0, 1, 3)), [])

    def test_a_side_through_the_end_of_another(self):
        net = ((), (), (1,), (2,), (0, 2, 3))
        self.check(net, (0, 4), 1)

    def test_nets_of_forty_works(self):
        dice = random.Random(62)
        for _ in range(30):
            net = chance_net(dice, 40, 4)
            path = (39,)
            while net[path[0]]:
                path = (dice.choice(net[path[0]]),) + path
            self.check(net, path)
        starts = ((),) * 20
        net = starts + tuple((k,) for k in range(19)) + (tuple(range(19, 39)),)
        self.assertEqual(self.check(net, (19, 39), 19), [(k, 20 + k) for k in range(19)])

    def test_nets_of_forty_works_with_a_neck(self):
        net = ((),) * 20 + (tuple(range(1, 20)),) + tuple((20,) for _ in range(18)) + ((0,) + tuple(range(21, 39)),)
        self.assertEqual(len(net), 40)
        self.check(net, (0, 39), 1)

    def test_the_told_list_is_the_askers_own(self):
        net = full_tree(3)
        path = all_paths(net, 14)[0]
        told = sides_of(net, path)
        kept = list(told)
        told.clear()
        self.assertEqual(sides_of(net, path), kept)


class TestShowsSides(unittest.TestCase):
    # On the path 0, 4, 6: 4 needs 1 as well, 6 needs 5 as well, which needs 2 and 3; 7 is needed by none on the path.
    NET = ((), (), (), (), (0, 1), (2, 3), (4, 5), (2,))
    PATH = (0, 4, 6)

    def told(self, thing, net=None, path=None):
        return shows_sides(net or self.NET, path or self.PATH, thing)

    def test_sides(self):
        for thing in ([(1,), (2, 5)], [(2, 5), (1,)], [(3, 5), (1,)], [(1,)], [(3, 5)], []):
            before = list(thing)
            self.assertIs(self.told(thing), True, thing)
            self.assertEqual(thing, before)

    def test_what_sides_of_tells_and_fewer_of_these(self):
        for net in SMALL:
            for work in range(len(net)):
                for path in all_paths(net, work)[:10]:
                    sides = sides_of(net, path)
                    for many in range(len(sides) + 1):
                        self.assertIs(shows_sides(net, path, sides[many:]), True)
                        self.assertIs(shows_sides(net, path, sides[:many][::-1]), True)

    def test_a_side_twice(self):
        self.assertIs(self.told([(1,), (1,)]), False)
        self.assertIs(self.told([(2, 5), (1,), (2, 5)]), False)

    def test_a_common_work(self):
        self.assertIs(self.told([(2, 5), (3, 5)]), False)
        net = ((), (), (1,), (1,), (0, 2, 3))
        self.assertIs(self.told([(1, 2), (1, 3)], net, (0, 4)), False)

    def test_a_work_of_the_path(self):
        for thing in ([(0,)], [(0, 4)], [(1, 4)], [(1, 4, 6)], [(2, 5, 6)]):
            self.assertIs(self.told(thing), False, thing)
        self.assertIs(self.told([(0, 2)], ((), (0,), (0,), (1, 2)), (0, 1, 3)), False)

    def test_a_path_to_what_is_not_needed(self):
        for thing in ([(2,)], [(3,)], [(2, 7)], [(1,), (2, 7)], [(7,)]):
            self.assertIs(self.told(thing), False, thing)
        # What only the path's first work would need is never a side: here 0 needs none, and 1 is needed by nobody.
        self.assertIs(self.told([(1,)], ((), (), (0,)), (0, 2)), False)
        self.assertIs(self.told([(0,)], ((), ()), (1,)), False)

    def test_a_side_that_begins_at_a_work_with_needs(self):
        self.assertIs(self.told([(5,)]), False)

    def test_a_side_with_a_gap(self):
        self.assertIs(self.told([(1, 5)]), False)
        self.assertIs(self.told([(2, 3, 5)]), False)
        self.assertIs(self.told([(5, 2)]), False)

    def test_kinds(self):
        for thing in ([(True,)], [(False,)], [(1.0,)], [("1",)], [(None,)], [((1,),)], [[1]], [[2, 5]], ((1,),), (),
                      [()], [1], ["1"], [None], [True], [(1,), ()], [(1,), None], [(1,), [2, 5]], [(2, True)],
                      [((2,), 5)], {(1,): True}, [(2, (5,))], [[(1,)]], [(1,), [(2, 5)]]):
            self.assertIs(self.told(thing), False, thing)

    def test_works_that_are_not_there(self):
        for thing in ([(8,)], [(-7,)], [(-1,)], [(2, -3)], [(10 ** 30,)], [(1, 99)], [(-6, 5)]):
            self.assertIs(self.told(thing), False, thing)

    def test_odd_things(self):
        for thing in ODD_THINGS:
            self.assertIs(self.told(thing), thing == [], thing)
            # By its signs, as (True,) equals (1,), which alone of these is a side.
            self.assertIs(self.told([thing]), repr(thing) == "(1,)", thing)
            self.assertIs(self.told([(1,), thing]), False, thing)
            self.assertIs(self.told([(2, thing)]), False, thing)

    def test_by_words(self):
        dice = random.Random(63)
        for net in SMALL:
            paths = paths_by_words(net, len(net) - 1)[:5]
            for path in paths:
                known = sides_by_words(net, path)
                for _ in range(10):
                    pool = known + [tuple(dice.sample(range(len(net)), dice.randint(1, min(3, len(net)))))]
                    thing = [dice.choice(pool) for _ in range(dice.randint(0, 3))]
                    works = [work for side in thing for work in side]
                    due = all(side in known for side in thing) and len(works) == len(set(works))
                    self.assertIs(shows_sides(net, path, thing), due)


if __name__ == "__main__":
    unittest.main()
