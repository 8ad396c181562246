import copy
import unittest

from fewrooms.cutcheck import shows_cut
from fewrooms.cuts import bracket, cut_bound, cut_paper
from fewrooms.errors import RoomError, TooMany
from fewrooms.nets import all_needed
from fewrooms.paths import all_paths, shows_sides
from fewrooms.plainly import deep_plan, plain_plan
from samples import (LEANT_ON, MIXED, NAMED, ONE, all_ahead, chance_nets, fewest_by_words, full_tree, joined, ladder,
                     lists_in, most_apart, paths_by_words, plan_does, row, sides_by_words, spoil, square, stands_behind)

SMALL = [net for net in NAMED if len(net) < 16] + chance_nets(71, 80, 8)
THREE_HUNDRED = joined((3, 10, 10))
ONE_MORE = THREE_HUNDRED + ((0, len(THREE_HUNDRED) - 1),)
VERY_MANY = (all_ahead(40), ladder(19), square(5, 8), ONE_MORE)


def bound_by_words(net, work):
    if not net[work]:
        return 1
    return 2 + min(most_apart(sides_by_words(net, path)) for path in paths_by_words(net, work))


def most(plan):
    return max(len(stand) for stand in stands_behind(plan))


def asks():
    for net in SMALL:
        for work in range(len(net)):
            if len(paths_by_words(net, work)) <= 300:
                yield net, work


class TestCutBound(unittest.TestCase):
    def test_works_without_needs(self):
        self.assertEqual(cut_bound(ONE, 0), 1)
        self.assertEqual(cut_bound(LEANT_ON, 8), 1)
        self.assertEqual(cut_bound(((),) * 40, 39), 1)

    def test_chains(self):
        for many in (2, 3, 40):
            self.assertEqual(cut_bound(row(many), many - 1), 2)
        self.assertEqual(cut_bound(row(40), 1), 2)
        self.assertEqual(cut_bound(row(40), 0), 1)

    def test_full_trees(self):
        for height in (1, 2, 3, 4):
            net = full_tree(height)
            self.assertEqual(cut_bound(net, len(net) - 1), height + 2)

    def test_rows_with_two_needs(self):
        net = tuple(tuple(range(max(0, k - 2), k)) for k in range(12))
        self.assertEqual(cut_bound(net, 11), bound_by_words(net, 11))

    def test_many_needs(self):
        self.assertEqual(cut_bound(((),) * 39 + (tuple(range(39)),), 39), 40)

    def test_the_path_with_the_fewest_sides_counts(self):
        # The path from 0 has two sides, to 3 and 4; those from 1 and 2 have more; that from 4 has two.
        net = ((), (), (), (1, 2), (), (0, 3, 4))
        self.assertEqual(cut_bound(net, 5), 4)
        # 0 leads to the end on its own, and over 1: the path over both has no side.
        self.assertEqual(cut_bound(((), (0,), (0, 1)), 2), 2)
        self.assertEqual(cut_bound(MIXED, 5), 2)

    def test_other_works_of_the_net_do_not_count(self):
        self.assertEqual(cut_bound(LEANT_ON, 7), 3)
        self.assertEqual(cut_bound(LEANT_ON, 4), 2)

    def test_by_words(self):
        for net, work in asks():
            self.assertEqual(cut_bound(net, work), bound_by_words(net, work), (net, work))

    def test_fewer_rooms_never_do(self):
        for net, work in asks():
            if len(net) < 8:
                self.assertLessEqual(cut_bound(net, work), fewest_by_words(net, (work,)))


class TestCutPaper(unittest.TestCase):
    def test_papers_as_told(self):
        self.assertEqual(cut_paper(ONE, 0), [((0,), [])])
        self.assertEqual(cut_paper(row(3), 2), [((0, 1, 2), [])])
        self.assertEqual(sorted(cut_paper(((), (), (0, 1)), 2)), [((0, 2), [(1,)]), ((1, 2), [(0,)])])

    def test_each_path_once_with_sides_of_it(self):
        for net, work in asks():
            paper = cut_paper(net, work)
            self.assertIs(type(paper), list)
            self.assertTrue(all(type(pair) is tuple and len(pair) == 2 for pair in paper))
            self.assertEqual(sorted(pair[0] for pair in paper), paths_by_words(net, work))
            for path, sides in paper:
                self.assertIs(type(sides), list)
                known = sides_by_words(net, path)
                self.assertTrue(all(side in known for side in sides))
                works = [one for side in sides for one in side]
                self.assertEqual(len(works), len(set(works)))
                self.assertTrue(not net[work] or len(sides) >= cut_bound(net, work) - 2)

    def test_it_is_taken_for_the_bound_and_not_for_one_more(self):
        for net, work in list(asks()) + [(full_tree(4), 30), (THREE_HUNDRED, len(THREE_HUNDRED) - 1)]:
            paper, bound = cut_paper(net, work), cut_bound(net, work)
            self.assertIs(shows_cut(net, work, bound, paper), True)
            self.assertIs(shows_cut(net, work, bound + 1, paper), False)

    def test_no_two_told_lists_are_one(self):
        for net, work in ((full_tree(3), 14), (row(5), 4), (LEANT_ON, 6), (ONE, 0), (MIXED, 5)):
            one, other = cut_paper(net, work), cut_paper(net, work)
            self.assertEqual(one, other)
            found = lists_in(one) + lists_in(other)
            self.assertEqual(len({id(part) for part in found}), len(found))
            kept = copy.deepcopy(one)
            one[0][1].append((99,))
            self.assertEqual(other, kept)
            spoil(one)
            self.assertEqual(other, kept)
            self.assertEqual(cut_paper(net, work), kept)


class TestBracket(unittest.TestCase):
    def check(self, net, work):
        told = bracket(net, work)
        self.assertIs(type(told), tuple)
        low, high, plan = told
        self.assertEqual(low, cut_bound(net, work))
        self.assertLessEqual(low, high)
        self.assertIs(type(plan), list)
        self.assertEqual(most(plan), high)
        self.assertTrue(plan_does(net, high, plan, (work,)))
        self.assertEqual(sorted(one for word, one in plan if word == "do"), all_needed(net, (work,)))
        plain, deep = plain_plan(net, (work,)), deep_plan(net, (work,))
        self.assertEqual(plan, deep if most(deep) < most(plain) else plain)
        return told

    def test_by_words(self):
        for net, work in asks():
            self.check(net, work)

    def test_great_nets(self):
        for net in (row(40), full_tree(4), THREE_HUNDRED, ((),) * 39 + (tuple(range(39)),)):
            self.check(net, len(net) - 1)

    def test_the_deep_plan_where_it_takes_fewer_rooms(self):
        net = full_tree(2)
        plain, deep = plain_plan(net, (6,)), deep_plan(net, (6,))
        self.assertLess(most(deep), most(plain))
        self.assertEqual(bracket(net, 6), (4, 4, deep))

    def test_the_plain_plan_where_it_takes_fewer_rooms(self):
        # The deep one does 4 first, so that 0, which 3 needs, is kept beside 2 and 4.
        net = ((), (), (0,), (0, 1), (2,), (2, 3, 4))
        plain, deep = plain_plan(net, (5,)), deep_plan(net, (5,))
        self.assertEqual((most(plain), most(deep)), (4, 5))
        self.assertEqual(bracket(net, 5), (cut_bound(net, 5), 4, plain))

    def test_the_plain_plan_where_both_take_as_many(self):
        net = ((), (), (1,), (0, 2))
        plain, deep = plain_plan(net, (3,)), deep_plan(net, (3,))
        self.assertNotEqual(plain, deep)
        self.assertEqual((most(plain), most(deep)), (3, 3))
        self.assertEqual(bracket(net, 3), (3, 3, plain))

    def test_works_without_needs(self):
        self.assertEqual(bracket(ONE, 0), (1, 1, [("do", 0)]))

    def test_told_plans_are_the_askers_own(self):
        one = bracket(full_tree(2), 6)
        kept = copy.deepcopy(one)
        spoil(one)
        self.assertEqual(bracket(full_tree(2), 6), kept)


class TestTooMany(unittest.TestCase):
    def check(self, ask):
        with self.assertRaises(RoomError) as caught:
            ask()
        self.assertIs(type(caught.exception), TooMany)
        self.assertEqual(TooMany.__bases__, (RoomError,))

    def test_just_where_there_are_more_than_three_hundred(self):
        last = len(THREE_HUNDRED) - 1
        self.assertEqual(len(all_paths(THREE_HUNDRED, last)), 300)
        self.assertEqual(cut_bound(THREE_HUNDRED, last), 2)
        self.assertEqual(len(cut_paper(THREE_HUNDRED, last)), 300)
        self.assertEqual(bracket(THREE_HUNDRED, last)[0], 2)
        self.assertEqual(cut_bound(ONE_MORE, last), 2)

    def test_very_many(self):
        for net in VERY_MANY:
            for ask in (cut_bound, cut_paper, bracket):
                self.check(lambda: ask(net, len(net) - 1))

    def test_few_paths_in_a_net_with_very_many(self):
        self.assertEqual(cut_bound(all_ahead(40), 5), bound_by_words(all_ahead(6), 5))
        self.assertEqual(len(cut_paper(all_ahead(40), 9)), 256)
        for ask in (cut_bound, cut_paper, bracket):
            self.check(lambda: ask(all_ahead(40), 10))

    def test_as_all_paths(self):
        for net in chance_nets(72, 40, 40, 4):
            for work in range(len(net)):
                try:
                    many = len(all_paths(net, work))
                except TooMany:
                    self.check(lambda: cut_bound(net, work))
                    self.check(lambda: bracket(net, work))
                    self.check(lambda: shows_cut(net, work, 2, []))
                    continue
                if many < 30:
                    for path, sides in cut_paper(net, work):
                        self.assertIs(shows_sides(net, path, sides), True)
                    self.assertGreaterEqual(bracket(net, work)[0], 1)


if __name__ == "__main__":
    unittest.main()
