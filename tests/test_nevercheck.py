import copy
import random
import unittest

from fewrooms.nevercheck import shows_never
from fewrooms.trying import fewest, never_paper
from samples import (MIXED, ODD_THINGS, ONE, all_ahead, asks, bent, chance_asked, chance_net, chance_nets, full_tree,
                     is_a_stand, ladder, least_by_words, moves_by_words, nested, part_by_words, reached_by_words, row,
                     square)

SMALL = [ONE, ((), ()), MIXED, row(5), all_ahead(6), square(2, 3), full_tree(2), ladder(2), ((),) * 5]
SMALL += chance_nets(121, 30, 7)

# 3 needs 1 and 2, both need 0, and 4 needs none: for 3 two rooms never do.
NET = ((), (0,), (0,), (1, 2), ())
STANDS = [(), (0,), (0, 1), (0, 2), (1,), (1, 2), (2,)]
# In two rooms 1 and 2 can't both be come to, as both need 0 there.
COME_TO = [(), (0,), (0, 1), (0, 2), (1,), (2,)]
WORKS = (0, 1, 2, 3)


def shows_by_words(net, asked, rooms, thing):
    if type(thing) is not tuple or len(thing) != 2:
        return False
    works, stands = thing
    if not is_a_stand(net, works) or not set(works) & set(asked) or type(stands) is not list:
        return False
    part = part_by_words(net, works)
    wanted = {works.index(work) for work in asked if work in works}
    if not all(is_a_stand(part, stand) and len(stand) <= rooms for stand in stands) or () not in stands:
        return False
    for stand in stands:
        if wanted <= set(stand) or not {further for word, further in moves_by_words(part, rooms, stand)} <= set(stands):
            return False
    return True


class TestShowsNever(unittest.TestCase):
    def told(self, thing, net=NET, asked=(3,), rooms=2):
        before = copy.deepcopy(thing)
        told = shows_never(net, asked, rooms, thing)
        self.assertEqual(repr(thing), repr(before))
        self.assertIs(shows_never(net, asked, rooms, thing), told)
        return told

    def test_a_paper(self):
        self.assertIs(self.told((WORKS, COME_TO)), True)

    def test_stands_turned_about_and_twice(self):
        self.assertIs(self.told((WORKS, COME_TO[::-1])), True)
        self.assertIs(self.told((WORKS, COME_TO[3:] + COME_TO[:3])), True)
        self.assertIs(self.told((WORKS, COME_TO + COME_TO)), True)
        for stand in COME_TO:
            self.assertIs(self.told((WORKS, COME_TO + [stand])), True)
            self.assertIs(self.told((WORKS, [stand] + COME_TO[::-1])), True)

    def test_stands_that_are_not_come_to(self):
        # They may be there, where no move leads from them to the asked ones.
        self.assertIs(self.told((WORKS, STANDS)), True)
        self.assertIs(self.told((WORKS, STANDS), rooms=3), False)
        self.assertIs(self.told(((0, 1, 2), [(), (0,), (1,)]), row(3), (2,), 1), True)

    def test_a_stand_left_out(self):
        for stand in COME_TO:
            self.assertIs(self.told((WORKS, [one for one in COME_TO if one != stand])), False, stand)
        for stand in STANDS:
            left = [one for one in STANDS if one != stand]
            self.assertIs(self.told((WORKS, left)), stand == (1, 2), stand)
        self.assertIs(self.told((WORKS, [])), False)

    def test_a_stand_of_too_many_results(self):
        for stand in ((0, 1, 2), (0, 1, 3), (0, 1, 2, 3)):
            self.assertIs(self.told((WORKS, COME_TO + [stand])), False)
        everything = [stand for stand in reached_by_words(NET[:4], 3) if 3 not in stand]
        self.assertIs(self.told((WORKS, everything)), False)

    def test_a_stand_with_all_asked_ones(self):
        self.assertIs(self.told((WORKS, COME_TO + [(3,)])), False)
        self.assertIs(self.told((WORKS, COME_TO + [(0, 3), (1, 3), (2, 3), (3,), (1, 2)])), False)
        both = [(), (0,), (1,), (0, 1)]
        self.assertIs(self.told(((0, 1), both), ((), ()), (0, 1), 2), False)
        self.assertIs(self.told(((0, 1), both[:3]), ((), ()), (0, 1), 2), False)
        self.assertIs(self.told(((0, 1), both[:3]), ((), ()), (0, 1), 1), True)

    def test_all_asked_ones_of_the_part_alone(self):
        # 0 and 4 are asked: in the part without 4, one room holds all of them that are there.
        self.assertIs(self.told(((0,), [(), (0,)]), NET, (0, 4), 1), False)
        self.assertIs(self.told(((0, 4), [(), (0,), (1,)]), NET, (0, 4), 1), True)
        self.assertIs(self.told(((0, 4), [(), (0,), (1,)]), NET, (0, 3, 4), 1), True)
        self.assertIs(self.told(((0, 4), [(), (0,), (1,)]), NET, (0, 3), 1), False)

    def test_rooms(self):
        self.assertIs(self.told((WORKS, [(), (0,)]), rooms=1), True)
        self.assertIs(self.told((WORKS, COME_TO), rooms=1), False)
        self.assertIs(self.told((WORKS, [(), (0,)]), rooms=2), False)
        for rooms in (3, 4, 400):
            self.assertIs(self.told((WORKS, COME_TO), rooms=rooms), False)

    def test_works(self):
        everything = list(reached_by_words(NET, 2))
        self.assertIs(self.told(((0, 1, 2, 3, 4), everything)), True)
        for works in ((0, 1, 3, 2), (3, 2, 1, 0), (0, 0, 1, 2, 3), (0, 1, 2, 3, 3), (-1, 0, 1, 2, 3), (0, 1, 2, 3, 5),
                      (0, 1, 2, 3, 10 ** 20), (0, 1, 2), (0, 1, 2, 4), (4,), (), (0, True, 2, 3), (False, 1, 2, 3),
                      [0, 1, 2, 3], (0, 1, 2, "3"), (0, 1, 2, None), (0, 1, (2,), 3), "0123", None, 3, True):
            for stands in (COME_TO, everything, [()]):
                self.assertIs(self.told((works, stands)), False, works)

    def test_no_work(self):
        self.assertIs(self.told(((), [()])), False)
        self.assertIs(self.told(((), [()]), ONE, (0,), 1), False)

    def test_true_for_a_number(self):
        for place, stand in enumerate(COME_TO):
            for spot in range(len(stand)):
                if stand[spot] in (0, 1):
                    odd = stand[:spot] + (bool(stand[spot]),) + stand[spot + 1:]
                    self.assertIs(self.told((WORKS, COME_TO[:place] + [odd] + COME_TO[place + 1:])), False)
                    self.assertIs(self.told((WORKS, COME_TO + [odd])), False)

    def test_lists_for_tuples_and_tuples_for_lists(self):
        for thing in ([WORKS, COME_TO], (list(WORKS), COME_TO), (WORKS, tuple(COME_TO)), (COME_TO, WORKS),
                      (WORKS, [list(stand) for stand in COME_TO]), (WORKS, COME_TO[:-1] + [[2]]), (WORKS, [[]] + COME_TO),
                      (WORKS, COME_TO, COME_TO), (WORKS, COME_TO, None), (WORKS,), (COME_TO,), (), WORKS, COME_TO,
                      ((WORKS, COME_TO),), [(WORKS, COME_TO)], (WORKS, [COME_TO]), ((WORKS,), COME_TO)):
            self.assertIs(self.told(thing), False, thing)

    def test_odd_things(self):
        for thing in ODD_THINGS:
            self.assertIs(self.told(thing), False, thing)
            self.assertIs(self.told((thing, COME_TO)), False, thing)
            self.assertIs(self.told((WORKS, thing)), False, thing)
            self.assertIs(self.told((thing, thing)), False, thing)
            self.assertIs(self.told((WORKS, COME_TO, thing)), False, thing)
            self.assertIs(self.told((WORKS, COME_TO[:-1] + [thing])), False, thing)
            self.assertIs(self.told((WORKS, COME_TO + [thing])), thing in COME_TO and type(thing) is tuple
                          and all(type(one) is int for one in thing), thing)
            self.assertIs(self.told((WORKS, COME_TO + [(0, thing)])), type(thing) is int and thing == 1, thing)
            self.assertIs(self.told(((0, 1, 2, thing), COME_TO)), False, thing)
        for thing in (nested((WORKS, COME_TO), 15, tuple), nested((WORKS, COME_TO), 15, list)):
            self.assertIs(self.told(thing), False)

    def test_takes_what_never_paper_tells(self):
        dice = random.Random(122)
        for net, asked in asks(SMALL, 123):
            for rooms in range(1, fewest(net, asked)[0]):
                works, stands = never_paper(net, asked, rooms)
                self.assertIs(self.told((works, stands), net, asked, rooms), True)
                again = stands + [dice.choice(stands) for _ in range(3)]
                dice.shuffle(again)
                self.assertIs(self.told((works, again), net, asked, rooms), True)
                left = dice.choice(stands)
                self.assertIs(self.told((works, [one for one in stands if one != left]), net, asked, rooms), False)

    def test_other_parts_of_the_net(self):
        dice = random.Random(124)
        taken = 0
        for _ in range(250):
            net = chance_net(dice, dice.randint(2, 7))
            asked = chance_asked(dice, net)
            works = tuple(sorted(dice.sample(range(len(net)), dice.randint(1, len(net)))))
            part = part_by_words(net, works)
            wanted = tuple(works.index(work) for work in asked if work in works)
            for rooms in (1, 2, 3):
                due = wanted != () and least_by_words(part, wanted, rooms) is None
                self.assertIs(self.told((works, sorted(reached_by_words(part, rooms))), net, asked, rooms), due)
                taken += due
        self.assertGreater(taken, 50)

    def test_nets_of_ten_works(self):
        dice = random.Random(125)
        nets = [all_ahead(10), square(2, 5), ladder(4)] + [chance_net(dice, 10) for _ in range(5)]
        for net, asked in asks(nets, 126, 1):
            rooms = fewest(net, asked)[0] - 1
            if rooms > 0:
                works, stands = never_paper(net, asked, rooms)
                self.assertIs(self.told((works, stands[::-1]), net, asked, rooms), True)
                self.assertIs(self.told((works, stands), net, asked, rooms + 1), False)
                self.assertIs(self.told((works, stands[:-1]), net, asked, rooms), False)

    def test_bent_papers_by_words(self):
        dice = random.Random(127)
        taken = 0
        for net, asked in asks(SMALL, 128):
            for rooms in range(1, fewest(net, asked)[0]):
                for _ in range(12):
                    thing = bent(dice, never_paper(net, asked, rooms))
                    if dice.random() < 0.3:
                        thing = bent(dice, thing)
                    due = shows_by_words(net, asked, rooms, thing)
                    self.assertIs(self.told(thing, net, asked, rooms), due, (net, asked, rooms, thing))
                    taken += due
        self.assertGreater(taken, 20)


if __name__ == "__main__":
    unittest.main()
