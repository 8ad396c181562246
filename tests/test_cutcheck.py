import copy
import unittest

from fewrooms.cutcheck import shows_cut
from fewrooms.cuts import cut_bound, cut_paper
from fewrooms.errors import RoomError, TooMany
from samples import (LEANT_ON, MIXED, ODD_THINGS, ONE, all_ahead, chance_nets, full_tree, joined, ladder, nested,
                     paths_by_words, row, sides_by_words, square)

# 6 needs 4 and 5; 4 needs 0 and 1, 5 needs 2 and 3; 7 needs 4 alone.
NET = full_tree(2) + ((4,),)
PAPER = [
    ((0, 4, 6), [(1,), (2, 5)]), ((1, 4, 6), [(0,), (3, 5)]),
    ((2, 5, 6), [(3,), (0, 4)]), ((3, 5, 6), [(2,), (1, 4)]),
]


def changed(place, pair):
    return PAPER[:place] + [pair] + PAPER[place + 1:]


class TestShowsCut(unittest.TestCase):
    def told(self, thing, rooms=4, work=6, net=NET):
        before = copy.deepcopy(thing)
        told = shows_cut(net, work, rooms, thing)
        self.assertEqual(repr(thing), repr(before))
        self.assertIs(shows_cut(net, work, rooms, thing), told)
        return told

    def test_a_paper(self):
        self.assertIs(self.told(PAPER), True)
        self.assertIs(self.told(PAPER[::-1]), True)
        self.assertIs(self.told(PAPER[2:] + PAPER[:2]), True)
        self.assertIs(self.told([(path, sides[::-1]) for path, sides in PAPER]), True)

    def test_rooms(self):
        for rooms in (1, 2, 3, 4):
            self.assertIs(self.told(PAPER, rooms), True)
        for rooms in (5, 6, 40, 400, 10 ** 20):
            self.assertIs(self.told(PAPER, rooms), False)

    def test_fewer_sides(self):
        bare = [(path, []) for path, sides in PAPER]
        for rooms in (1, 2):
            self.assertIs(self.told(bare, rooms), True)
        self.assertIs(self.told(bare, 3), False)
        one_less = changed(2, (PAPER[2][0], PAPER[2][1][:1]))
        self.assertIs(self.told(one_less, 3), True)
        self.assertIs(self.told(one_less, 4), False)

    def test_a_path_left_out(self):
        for place in range(4):
            for rooms in (1, 4):
                self.assertIs(self.told(PAPER[:place] + PAPER[place + 1:], rooms), False)
        self.assertIs(self.told([], 1), False)

    def test_a_path_twice(self):
        for place in range(4):
            self.assertIs(self.told(PAPER + [PAPER[place]]), False)
            self.assertIs(self.told(PAPER + [(PAPER[place][0], [])], 1), False)
            other = (place + 1) % 4
            self.assertIs(self.told(changed(other, PAPER[place])), False)

    def test_a_path_of_another_work(self):
        self.assertIs(self.told(PAPER + [((0, 4, 7), [(1,)])], 3), False)
        self.assertIs(self.told(changed(0, ((0, 4, 7), [(1,)])), 3), False)
        self.assertIs(self.told(changed(0, ((0, 4), [(1,)])), 3), False)
        self.assertIs(self.told(PAPER, 1, 7), False)
        self.assertIs(self.told([((0, 4, 7), [(1,)]), ((1, 4, 7), [(0,)])], 3, 7), True)
        self.assertIs(self.told([((0, 4), [(1,)]), ((1, 4), [(0,)])], 3, 7), False)

    def test_what_is_no_path(self):
        for path in ((4, 6), (6,), (), (0, 6), (0, 5, 6), (0, 4, 4, 6), (6, 4, 0), (0, 4, 6, 7), (-8, 4, 6), (0, 4, 99)):
            self.assertIs(self.told(changed(0, (path, [])), 1), False, path)

    def test_a_side_bent(self):
        for sides in ([(1,), (5,)], [(1,), (2,)], [(1,), (1,)], [(1,), (0, 4)], [(2, 5), (3, 5)], [(1,), (2, 5, 6)],
                      [(1,), (5, 2)], [(0,), (2, 5)], [(1,), (2, 5), (3,)], [(1,), ()], [(1,), (2, 99)], [(1,), (-1,)]):
            self.assertIs(self.told(changed(0, (PAPER[0][0], sides))), False, sides)
            self.assertIs(self.told(changed(0, (PAPER[0][0], sides)), 1), False, sides)

    def test_true_for_a_number(self):
        self.assertIs(self.told(changed(1, ((True, 4, 6), PAPER[1][1]))), False)
        self.assertIs(self.told(changed(0, ((False, 4, 6), PAPER[0][1]))), False)
        self.assertIs(self.told(changed(0, (PAPER[0][0], [(True,), (2, 5)]))), False)
        self.assertIs(self.told(changed(1, (PAPER[1][0], [(False,), (3, 5)]))), False)

    def test_lists_for_tuples_and_tuples_for_lists(self):
        self.assertIs(self.told(tuple(PAPER)), False)
        path, sides = PAPER[0]
        for pair in ([path, sides], (list(path), sides), (path, tuple(sides)), (path, [list(side) for side in sides]),
                     (path, [(1,), [2, 5]]), (path, sides, sides), (path,), (sides, path), (), (path, sides, None),
                     path, sides, [path], (path, [sides]), ((path,), sides), (path, None), (None, sides)):
            for rooms in (1, 4):
                self.assertIs(self.told(changed(0, pair), rooms), False, pair)

    def test_odd_things(self):
        for thing in ODD_THINGS:
            for rooms in (1, 4):
                self.assertIs(self.told(thing, rooms), False, thing)
                self.assertIs(self.told([thing], rooms), False, thing)
                self.assertIs(self.told([thing] * 4, rooms), False, thing)
                self.assertIs(self.told(PAPER + [thing], rooms), False, thing)
                self.assertIs(self.told(changed(3, thing), rooms), False, thing)
                self.assertIs(self.told(changed(3, (thing, PAPER[3][1])), rooms), False, thing)
                self.assertIs(self.told(changed(3, (PAPER[3][0], thing)), rooms), rooms == 1 and thing == [], thing)
                self.assertIs(self.told(changed(3, (PAPER[3][0], [thing, (1, 4)])), rooms), False, thing)
                self.assertIs(self.told(changed(3, ((3, thing, 6), PAPER[3][1])), rooms), False, thing)
        for thing in (nested(PAPER, 15, list), nested(PAPER, 15, tuple), "paper", [PAPER]):
            self.assertIs(self.told(thing), False)

    def test_a_work_without_needs(self):
        for net, work in ((ONE, 0), (LEANT_ON, 8), (NET, 2)):
            paper = [((work,), [])]
            self.assertIs(self.told(paper, 1, work, net), True)
            for rooms in (2, 3, 99):
                self.assertIs(self.told(paper, rooms, work, net), False)
            self.assertIs(self.told([], 1, work, net), False)
            self.assertIs(self.told(paper * 2, 1, work, net), False)
            self.assertIs(self.told([((work,), [(work,)])], 1, work, net), False)
            self.assertIs(self.told([((work,), ())], 1, work, net), False)
        self.assertIs(self.told([((False,), [])], 1, 0, ONE), False)

    def test_a_chain(self):
        net = row(30)
        paper = [(tuple(range(30)), [])]
        for rooms, due in ((1, True), (2, True), (3, False)):
            self.assertIs(self.told(paper, rooms, 29, net), due)

    def test_papers_of_nets_of_all_sorts(self):
        for net in chance_nets(73, 60, 8):
            for work in range(len(net)):
                paper = cut_paper(net, work)
                bound = cut_bound(net, work)
                for rooms in (1, 2, bound, bound + 1):
                    due = rooms <= bound and (rooms == 1 or len(net[work]) > 0)
                    self.assertIs(self.told(paper, rooms, work, net), due)
                    self.assertIs(self.told(paper[::-1], rooms, work, net), due)
                self.assertIs(self.told(paper[1:], 1, work, net), False)

    def test_papers_with_other_sides(self):
        for path in paths_by_words(NET, 6):
            for side in sides_by_words(NET, path):
                thing = [(path, [side])] + [pair for pair in PAPER if pair[0] != path]
                self.assertIs(self.told(thing, 3), True)
                self.assertIs(self.told(thing, 4), False)

    def test_too_many_ahead_of_any_look(self):
        one_more = joined((3, 10, 10)) + ((0, 26),)
        for net in (one_more, all_ahead(40), ladder(19), square(5, 8)):
            for rooms in (1, 2, 50):
                for thing in (None, True, "", 7, [], (), PAPER, [((0,), [])], nested([], 19, list)):
                    with self.assertRaises(RoomError) as caught:
                        shows_cut(net, len(net) - 1, rooms, thing)
                    self.assertIs(type(caught.exception), TooMany)
        self.assertIs(shows_cut(MIXED, 5, 2, None), False)


if __name__ == "__main__":
    unittest.main()
