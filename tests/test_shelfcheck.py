import copy
import random
import unittest

from fewrooms.shelf import least_far
from fewrooms.shelfcheck import shows_far
from samples import (MIXED, ODD_THINGS, ONE, all_ahead, asks, bent, chance_asked, chance_net, cost_by_words,
                     far_moves_by_words, far_place_behind, far_reached_by_words, is_a_number, is_a_stand, ladder, nested,
                     row, square)

# 1 needs 0; in two rooms, by a do of 5, a put of 2 and a fetch of 1.
NET = ((), (0,))
COSTS = (5, 2, 1)
MOVES = [("do", 0), ("do", 1)]
PAPER = sorted(far_reached_by_words(NET, 2, COSTS).items())
GOOD = ("plan", MOVES, 10, PAPER)
# In one room it never does.
NEVER = sorted(far_reached_by_words(NET, 1, COSTS).items())
NONE = ("none", NEVER)


def is_a_place(net, rooms, thing):
    return (type(thing) is tuple and len(thing) == 2 and is_a_stand(net, thing[0]) and is_a_stand(net, thing[1])
            and len(thing[0]) <= rooms)


def is_a_paper(net, rooms, costs, thing):
    if type(thing) is not list:
        return False
    for pair in thing:
        if type(pair) is not tuple or len(pair) != 2 or not is_a_place(net, rooms, pair[0]):
            return False
        if not is_a_number(pair[1]) or pair[1] < 0:
            return False
    numbers = dict(thing)
    if len(numbers) != len(thing) or ((), ()) not in numbers or numbers[((), ())] != 0:
        return False
    for place in numbers:
        for move, further in far_moves_by_words(net, rooms, place):
            if further not in numbers or numbers[further] > numbers[place] + cost_by_words([move], costs):
                return False
    return True


def shows_by_words(net, asked, rooms, costs, thing):
    if type(thing) is not tuple or not thing or len(thing) != {"plan": 4, "none": 2}.get(repr(thing[0])[1:-1]):
        return False
    if type(thing[0]) is not str or not is_a_paper(net, rooms, costs, thing[-1]):
        return False
    ends = [number for place, number in thing[-1] if set(asked) <= set(place[0])]
    if thing[0] == "none":
        return not ends
    moves, cost = thing[1:3]
    if type(moves) is not list or not is_a_number(cost):
        return False
    for move in moves:
        if type(move) is not tuple or len(move) != 2 or type(move[0]) is not str or not is_a_number(move[1]):
            return False
    place = far_place_behind(net, rooms, moves)
    return (place is not None and set(asked) <= set(place[0]) and cost_by_words(moves, costs) == cost
            and all(number >= cost for number in ends))


class Asked(unittest.TestCase):
    def told(self, thing, rooms=2, net=NET, asked=(1,), costs=COSTS):
        before = copy.deepcopy(thing)
        told = shows_far(net, asked, rooms, costs, thing)
        self.assertEqual(repr(thing), repr(before))
        self.assertIs(shows_far(net, asked, rooms, costs, thing), told)
        return told

    def plan(self, moves=MOVES, cost=10, paper=PAPER, **more):
        return self.told(("plan", moves, cost, paper), **more)


class TestShowsFar(Asked):
    def test_a_plan_and_none(self):
        self.assertIs(self.told(GOOD), True)
        self.assertIs(self.told(NONE, 1), True)
        self.assertIs(self.told(GOOD, 1), False)
        self.assertIs(self.told(NONE, 2), False)
        self.assertIs(self.told(least_far(NET, (1,), 2, COSTS)), True)
        self.assertIs(self.told(least_far(NET, (1,), 1, COSTS), 1), True)

    def test_a_paper_in_any_order(self):
        dice = random.Random(141)
        for _ in range(10):
            paper, never = list(PAPER), list(NEVER)
            dice.shuffle(paper)
            dice.shuffle(never)
            self.assertIs(self.plan(paper=paper), True)
            self.assertIs(self.told(("none", never), 1), True)

    def test_the_cost(self):
        for cost in (9, 11, 0, -10, 2, 10 ** 20, "10", None, (10,), [10], True):
            self.assertIs(self.plan(cost=cost), False, cost)
        # Moves that cost 1 and are told as True.
        self.assertIs(self.told(("plan", [("do", 0)], 1, [(((), ()), 0), (((0,), ()), 1), (((0,), (0,)), 1), (
            ((), (0,)), 1)]), 1, ONE, (0,), (1, 0, 0)), True)
        self.assertIs(self.told(("plan", [("do", 0)], True, [(((), ()), 0), (((0,), ()), 1), (((0,), (0,)), 1), (
            ((), (0,)), 1)]), 1, ONE, (0,), (1, 0, 0)), False)

    def test_a_cost_that_is_more_than_the_least_by_the_paper(self):
        longer = [("do", 0), ("clear", 0), ("do", 0), ("do", 1)]
        self.assertIs(self.plan(longer, 15), False)
        self.assertIs(self.plan(longer, 10), False)
        self.assertIs(self.plan([("do", 0), ("put", 0), ("do", 1)], 12), False)
        # Clears cost none, so that more moves may cost as little.
        self.assertIs(self.plan([("do", 0), ("do", 1), ("clear", 0)], 10), True)

    def test_lesser_numbers_where_no_asked_ones_are(self):
        # The numbers may be below the least, so long as no move leads to a greater one than it accounts for.
        for place, number in PAPER:
            for less in range(number):
                thing = ("plan", MOVES, 10, [(one, less if one == place else old) for one, old in PAPER])
                due = shows_by_words(NET, (1,), 2, COSTS, thing)
                self.assertIs(self.told(thing), due)
        less = [(place, number if 1 in place[0] else min(number, 5)) for place, number in PAPER]
        self.assertIs(self.plan(paper=less), shows_by_words(NET, (1,), 2, COSTS, ("plan", MOVES, 10, less)))
        nought = [(place, 0) for place, number in NEVER]
        self.assertIs(self.told(("none", nought), 1), True)
        self.assertIs(self.plan(paper=[(place, 0) for place, number in PAPER]), False)

    def test_a_number_too_great(self):
        for place, number in PAPER:
            paper = [(one, number + 1 if one == place else old) for one, old in PAPER]
            self.assertIs(self.plan(paper=paper), False, place)
        for place, number in NEVER:
            never = [(one, number + 1 if one == place else old) for one, old in NEVER]
            self.assertIs(self.told(("none", never), 1), False, place)

    def test_a_number_of_no_kind(self):
        for place, number in PAPER:
            for odd in (-1, -10, None, "0", (number,), [number], bool(number)):
                paper = [(one, odd if one == place else old) for one, old in PAPER]
                self.assertIs(self.plan(paper=paper), False, (place, odd))

    def test_numbers_below_nought(self):
        # What is put is never taken from the shelf, so that lesser numbers there could go on for ever.
        for less in (0, -1, -10):
            never = [(place, less if place[1] else 0) for place, number in NEVER]
            self.assertIs(self.told(("none", never), 1), less == 0)

    def test_the_first_place_with_nought(self):
        for odd in (1, False, None, "", -1):
            paper = [pair for pair in PAPER if pair[0] != ((), ())] + [(((), ()), odd)]
            self.assertIs(self.plan(paper=paper), False, odd)

    def test_a_place_left_out(self):
        for place in range(len(PAPER)):
            self.assertIs(self.plan(paper=PAPER[:place] + PAPER[place + 1:]), False)
        for place in range(len(NEVER)):
            self.assertIs(self.told(("none", NEVER[:place] + NEVER[place + 1:]), 1), False)
        self.assertIs(self.plan(paper=[]), False)
        self.assertIs(self.told(("none", []), 1), False)

    def test_a_place_twice(self):
        for place, number in PAPER:
            self.assertIs(self.plan(paper=PAPER + [(place, number)]), False)
            self.assertIs(self.plan(paper=[(place, number + 3)] + PAPER), False)
        for pair in NEVER:
            self.assertIs(self.told(("none", NEVER + [pair]), 1), False)

    def test_a_place_of_too_many_results(self):
        self.assertIs(self.told(("none", NEVER + [(((0, 1), ()), 0)]), 1), False)
        self.assertIs(self.told(("none", NEVER + [(((0, 1), (0, 1)), 99)]), 1), False)
        wide = sorted(far_reached_by_words(((), ()), 2, COSTS).items())
        self.assertIs(self.told(("plan", [("do", 0)], 5, wide), 2, ((), ()), (0,)), True)
        self.assertIs(self.told(("plan", [("do", 0)], 5, wide), 1, ((), ()), (0,)), False)

    def test_places_of_no_kind(self):
        for odd in ((0,), ((0,),), ((), (), ()), [(), ()], ([], ()), ((), []), ((1, 0), ()), ((), (1, 0)), ((0, 0), ()),
                    ((), (0, 0)), ((2,), ()), ((), (2,)), ((-1,), ()), ((), (-1,)), ((True,), ()), ((), (False,)),
                    ((None,), ()), ((), ("0",)), (((0,),), ()), None, 0, True, "place", ()):
            self.assertIs(self.plan(paper=PAPER + [(odd, 0)]), False, odd)
            self.assertIs(self.told(("none", NEVER + [(odd, 0)]), 1), False, odd)

    def test_places_that_are_not_come_to(self):
        # 1 on the shelf is never come to in one room, and from there it could be fetched.
        self.assertIs(self.told(("none", NEVER + [(((), (1,)), 0)]), 1), False)
        # 2 needs 1: so 1 may be there, where all places behind it are.
        both = [(((), ()), 0), (((0,), ()), 0), (((), (0,)), 0), (((0,), (0,)), 0)]
        more = [((near, far), 0) for near in ((), (0,), (1,)) for far in ((), (0,), (1,), (0, 1))]
        for paper in (both, more):
            self.assertIs(self.told(("none", paper), 1, row(3), (2,)), True)
            self.assertIs(self.told(("none", paper), 1, row(3), (0,)), False)
        self.assertIs(self.told(("none", more[:-1]), 1, row(3), (2,)), False)

    def test_moves(self):
        for moves in ([("do", 1), ("do", 0)], [("do", 0), ("do", 0)], [("do", 0), ("fetch", 1)], [("put", 0)] + MOVES,
                      [("clear", 0)] + MOVES, [("fetch", 0)] + MOVES, [("do", 0)], [], MOVES + [("clear", 1)],
                      MOVES + [("do", 2)], MOVES + [("do", -1)], [("do", 0), ("clear", 0), ("do", 1)]):
            for cost in (cost_by_words(moves, COSTS), 10):
                self.assertIs(self.plan(moves, cost), False, moves)

    def test_moves_of_no_kind(self):
        for odd in (("do", True), ("do", "1"), ("do", None), ["do", 1], ("do",), ("do", 1, 0), ("make", 1), ("Do", 1),
                    (None, 1), (1, "do"), "do", None, True, 1, (), [], (["do"], 1), ("do", (1,)), ("do", [1])):
            self.assertIs(self.plan([("do", 0), odd]), False, odd)
            self.assertIs(self.plan([odd] + MOVES), False, odd)
            self.assertIs(self.plan(MOVES + [odd]), False, odd)
        self.assertIs(self.plan([("do", False), ("do", 1)]), False)

    def test_none_with_a_place_in_which_all_asked_ones_are(self):
        self.assertIs(self.told(("none", PAPER), 2), False)
        self.assertIs(self.told(("none", PAPER), 2, NET, (0,)), False)
        self.assertIs(self.told(("none", PAPER), 2, NET, (0, 1)), False)
        # On the shelf alone is not in a room.
        shelf = sorted(far_reached_by_words(((), ()), 1, COSTS).items())
        self.assertIs(self.told(("none", shelf), 1, ((), ()), (0, 1)), True)
        self.assertIs(self.told(("none", shelf), 1, ((), ()), (1,)), False)

    def test_lists_and_tuples_exchanged(self):
        for thing in (list(GOOD), ("plan", tuple(MOVES), 10, PAPER), ("plan", MOVES, 10, tuple(PAPER)),
                      ("plan", [list(move) for move in MOVES], 10, PAPER), ("plan", MOVES, 10, [list(p) for p in PAPER]),
                      ("plan", MOVES, 10, [(list(place), number) for place, number in PAPER]),
                      ("plan", MOVES, 10, [((list(place[0]), place[1]), number) for place, number in PAPER]),
                      ("plan", MOVES, 10, [((place[0], list(place[1])), number) for place, number in PAPER]),
                      ("plan", MOVES, 10), ("plan", MOVES, PAPER), ("plan", PAPER), GOOD + (None,), ("plan", 10, MOVES, PAPER),
                      ("plan", PAPER, 10, MOVES), ("none", MOVES, 10, PAPER), ("Plan", MOVES, 10, PAPER), MOVES, PAPER,
                      (["plan"], MOVES, 10, PAPER), (("plan",), MOVES, 10, PAPER), (None, MOVES, 10, PAPER)):
            self.assertIs(self.told(thing), False, thing)
        for thing in (list(NONE), ("none", tuple(NEVER)), ("none", NEVER, None), ("none",), ("plan", NEVER), (NEVER,),
                      ("none", [list(pair) for pair in NEVER]), (NEVER, "none"), (None, NEVER), ("none", dict(NEVER)[((), ())]),
                      ("none", NEVER, NEVER, NEVER), NEVER, (["none"], NEVER)):
            self.assertIs(self.told(thing, 1), False, thing)

    def test_odd_things(self):
        for thing in ODD_THINGS:
            for rooms in (1, 2):
                for odd in (thing, (thing, NEVER), ("none", thing), ("plan", thing), (thing,) + GOOD[1:],
                            ("plan", thing, 10, PAPER), ("plan", MOVES, thing, PAPER), ("plan", MOVES, 10, thing),
                            GOOD + (thing,), NONE + (thing,), ("none", NEVER + [thing]), ("none", [thing]),
                            ("none", NEVER + [(thing, 0)]), ("plan", MOVES, 10, PAPER + [thing]),
                            ("plan", MOVES, 10, PAPER[:-1] + [thing]), ("plan", MOVES + [thing], 10, PAPER),
                            ("plan", [thing] + MOVES, 10, PAPER), ("plan", MOVES, 10, PAPER[:-1] + [(thing, 12)]),
                            ("plan", MOVES, 10, PAPER[:-1] + [(PAPER[-1][0], thing)])):
                    self.assertIs(self.told(odd, rooms), False, odd)
        for thing in (nested(GOOD, 14, tuple), nested(GOOD, 14, list), (GOOD,), [GOOD]):
            self.assertIs(self.told(thing), False)


class TestToldThings(Asked):
    def tries(self, seed, many, most_works):
        dice = random.Random(seed)
        for _ in range(many):
            net = chance_net(dice, dice.randint(1, most_works))
            costs = tuple(dice.choice((0, 1, 2, 9, 99)) for _ in range(3))
            yield dice, net, chance_asked(dice, net), dice.randint(1, len(net) + 1), costs

    def test_takes_what_least_far_tells(self):
        for dice, net, asked, rooms, costs in self.tries(142, 120, 5):
            told = least_far(net, asked, rooms, costs)
            dice.shuffle(told[-1])
            self.assertIs(self.told(told, rooms, net, asked, costs), True)
            dropped = dice.randrange(len(told[-1]))
            left = told[:-1] + (told[-1][:dropped] + told[-1][dropped + 1:],)
            self.assertIs(self.told(left, rooms, net, asked, costs), False)

    def test_costs_of_nought(self):
        for net, asked in asks([row(4), MIXED[:5], ladder(1), ((),) * 3], 143):
            for rooms in (1, 2, 3, 400):
                self.assertIs(self.told(least_far(net, asked, rooms, (0, 0, 0)), rooms, net, asked, (0, 0, 0)), True)

    def test_nets_of_six_works(self):
        for net in (all_ahead(6), square(2, 3), MIXED, ladder(2)):
            for rooms in (2, 3, 6):
                told = least_far(net, (5,), rooms, (9, 2, 1))
                self.assertIs(self.told(told, rooms, net, (5,), (9, 2, 1)), True)
                self.assertIs(self.told(told, rooms + 1, net, (5,), (9, 2, 1)), rooms == 6)

    def test_other_costs_and_other_asked_works(self):
        for dice, net, asked, rooms, costs in self.tries(144, 60, 4):
            told = least_far(net, asked, rooms, costs)
            others = tuple(dice.choice((0, 1, 2, 9, 99)) for _ in range(3))
            self.assertIs(self.told(told, rooms, net, asked, others), shows_by_words(net, asked, rooms, others, told))
            other = chance_asked(dice, net)
            self.assertIs(self.told(told, rooms, net, other, costs), shows_by_words(net, other, rooms, costs, told))

    def test_bent_things_by_words(self):
        taken = 0
        for dice, net, asked, rooms, costs in self.tries(145, 150, 4):
            told = least_far(net, asked, rooms, costs)
            for _ in range(8):
                thing = bent(dice, told)
                if dice.random() < 0.3:
                    thing = bent(dice, thing)
                due = shows_by_words(net, asked, rooms, costs, thing)
                self.assertIs(self.told(thing, rooms, net, asked, costs), due, (net, asked, rooms, costs, thing))
                taken += due
        self.assertGreater(taken, 40)


if __name__ == "__main__":
    unittest.main()
