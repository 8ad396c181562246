import copy
import random
import unittest

from fewrooms.staircheck import shows_steps
from fewrooms.stairs import least_steps
from samples import (BACK_AND_FORTH, MIXED, ODD_THINGS, ONE, TWICE, all_ahead, asks, bent, chance_asked, chance_net,
                     chance_nets, fewest_by_words, is_a_number, is_a_stand, ladder, moves_by_words, nested, plan_does,
                     reached_by_words, row, square)

# 2 needs 1, and 1 needs 0: two rooms do, in three steps, and one never does.
NET = row(3)
PLAN = [("do", 0), ("do", 1), ("clear", 0), ("do", 2)]
PAPER = sorted(reached_by_words(NET, 2).items())
GOOD = ("plan", PLAN, 3, PAPER)
NEVER = [((), 0), ((0,), 1)]
NONE = ("none", NEVER)


def is_a_paper(net, rooms, thing):
    if type(thing) is not list:
        return False
    for pair in thing:
        if type(pair) is not tuple or len(pair) != 2 or not is_a_stand(net, pair[0]) or len(pair[0]) > rooms:
            return False
        if not is_a_number(pair[1]) or pair[1] < 0:
            return False
    numbers = dict(thing)
    if len(numbers) != len(thing) or () not in numbers or numbers[()] != 0:
        return False
    for stand in numbers:
        for word, further in moves_by_words(net, rooms, stand):
            if further not in numbers or numbers[further] > numbers[stand] + (word == "do"):
                return False
    return True


def shows_by_words(net, asked, rooms, thing):
    if type(thing) is not tuple or not thing or type(thing[0]) is not str:
        return False
    if len(thing) != {"plan": 4, "none": 2}.get(thing[0]) or not is_a_paper(net, rooms, thing[-1]):
        return False
    ends = [number for stand, number in thing[-1] if set(asked) <= set(stand)]
    if thing[0] == "none":
        return not ends
    plan, steps = thing[1:3]
    if type(plan) is not list or not is_a_number(steps):
        return False
    for move in plan:
        if type(move) is not tuple or len(move) != 2 or type(move[0]) is not str or move[0] not in ("do", "clear"):
            return False
        if not is_a_number(move[1]) or not 0 <= move[1] < len(net):
            return False
    return (plan_does(net, rooms, plan, asked) and steps == len([move for move in plan if move[0] == "do"])
            and all(number >= steps for number in ends))


class Asked(unittest.TestCase):
    def told(self, thing, rooms=2, net=NET, asked=(2,)):
        before = copy.deepcopy(thing)
        told = shows_steps(net, asked, rooms, thing)
        self.assertEqual(repr(thing), repr(before))
        self.assertIs(shows_steps(net, asked, rooms, thing), told)
        return told

    def plan(self, plan=PLAN, steps=3, paper=PAPER, **more):
        return self.told(("plan", plan, steps, paper), **more)


class TestShowsSteps(Asked):
    def test_a_plan_and_none(self):
        self.assertIs(self.told(GOOD), True)
        self.assertIs(self.told(NONE, 1), True)
        self.assertIs(self.told(GOOD, 1), False)
        self.assertIs(self.told(NONE, 2), False)
        # In three rooms there are further stands.
        self.assertIs(self.told(GOOD, 3), False)

    def test_a_paper_in_any_order(self):
        dice = random.Random(151)
        self.assertIs(self.told(("none", NEVER[::-1]), 1), True)
        for _ in range(10):
            paper = list(PAPER)
            dice.shuffle(paper)
            self.assertIs(self.plan(paper=paper), True)

    def test_other_plans_of_as_few_steps(self):
        self.assertIs(self.plan(PLAN + [("clear", 1)]), True)
        self.assertIs(self.plan(PLAN + [("clear", 1), ("do", 0)], 4), False)

    def test_the_steps(self):
        for steps in (2, 4, 0, -3, 10 ** 20, "3", None, (3,), [3], True, False):
            self.assertIs(self.plan(steps=steps), False, steps)
        one = [((), 0), ((0,), 1)]
        self.assertIs(self.told(("plan", [("do", 0)], 1, one), 1, ONE, (0,)), True)
        self.assertIs(self.told(("plan", [("do", 0)], True, one), 1, ONE, (0,)), False)

    def test_more_steps_than_the_least_by_the_paper(self):
        longer = [("do", 0), ("clear", 0)] + PLAN
        self.assertIs(self.plan(longer, 4), False)
        self.assertIs(self.plan(longer, 3), False)
        # No paper can be so: the numbers of such as are come to are too great for it.
        more = [(stand, number + (2 in stand)) for stand, number in PAPER]
        self.assertIs(self.plan(longer, 4, more), False)

    def test_a_plan_that_does_not(self):
        for plan in ([("do", 0), ("do", 1), ("do", 2)], PLAN[1:], PLAN + [("clear", 2)], PLAN[:-1], [], PLAN + PLAN,
                     [("clear", 0)] + PLAN, PLAN + [("clear", 0)], PLAN + [("do", 2)], PLAN + [("do", 3)],
                     PLAN + [("do", -1)], PLAN + [("clear", 3)], PLAN + [("clear", -1)]):
            for steps in (3, len([move for move in plan if move[0] == "do"])):
                self.assertIs(self.plan(plan, steps), False, plan)
        self.assertIs(self.told(GOOD, asked=(0, 2)), False)
        self.assertIs(self.told(("plan", PLAN[:2], 2, PAPER), asked=(0, 1)), True)

    def test_moves_of_no_kind(self):
        for odd in (("do", True), ("do", "1"), ("do", None), ["do", 1], ("do",), ("do", 1, 0), ("put", 1), ("fetch", 0),
                    ("Clear", 1), (None, 1), (1, "do"), "do", None, True, 1, (), [], (["do"], 1), ("do", (1,)), ("do", [1])):
            for place in range(len(PLAN) + 1):
                self.assertIs(self.plan(PLAN[:place] + [odd] + PLAN[place:]), False, odd)
            for place in range(len(PLAN)):
                self.assertIs(self.plan(PLAN[:place] + [odd] + PLAN[place + 1:]), False, odd)
        self.assertIs(self.plan([("do", False)] + PLAN[1:]), False)

    def test_lesser_numbers(self):
        # The numbers may be below the least, so long as no move leads to a greater one than it accounts for.
        taken = 0
        for place, number in PAPER:
            for less in range(number):
                thing = ("plan", PLAN, 3, [(one, less if one == place else old) for one, old in PAPER])
                due = shows_by_words(NET, (2,), 2, thing)
                self.assertIs(self.told(thing), due, (place, less))
                taken += due
        self.assertGreater(taken, 0)
        self.assertIs(self.told(("none", [((), 0), ((0,), 0)]), 1), True)
        self.assertIs(self.plan(paper=[(stand, 0) for stand, number in PAPER]), False)
        less = [(stand, number if 2 in stand else min(number, 2)) for stand, number in PAPER]
        self.assertIs(self.plan(paper=less), True)

    def test_a_number_too_great(self):
        for place, number in PAPER:
            self.assertIs(self.plan(paper=[(one, old + (one == place)) for one, old in PAPER]), False, place)
        self.assertIs(self.told(("none", [((), 0), ((0,), 2)]), 1), False)
        self.assertIs(self.told(("none", [((), 1), ((0,), 1)]), 1), False)

    def test_a_number_of_no_kind(self):
        for place, number in PAPER:
            for odd in (-1, -10, None, "0", (number,), [number], bool(number)):
                paper = [(one, odd if one == place else old) for one, old in PAPER]
                self.assertIs(self.plan(paper=paper), False, (place, odd))
        for odd in (True, -1, None, "1"):
            self.assertIs(self.told(("none", [((), 0), ((0,), odd)]), 1), False)
        for odd in (False, None, "", -1, 1):
            self.assertIs(self.told(("none", [((), odd), ((0,), 0)]), 1), False)

    def test_a_stand_left_out(self):
        for place in range(len(PAPER)):
            self.assertIs(self.plan(paper=PAPER[:place] + PAPER[place + 1:]), False)
        for place in range(len(NEVER)):
            self.assertIs(self.told(("none", NEVER[:place] + NEVER[place + 1:]), 1), False)
        self.assertIs(self.plan(paper=[]), False)
        self.assertIs(self.told(("none", []), 1), False)

    def test_a_stand_twice(self):
        for stand, number in PAPER:
            self.assertIs(self.plan(paper=PAPER + [(stand, number)]), False)
            self.assertIs(self.plan(paper=[(stand, number + 3)] + PAPER), False)
        for pair in NEVER:
            self.assertIs(self.told(("none", NEVER + [pair]), 1), False)

    def test_a_stand_of_too_many_results(self):
        self.assertIs(self.plan(paper=PAPER + [((0, 1, 2), 3)]), False)
        self.assertIs(self.told(("none", NEVER + [((0, 1), 0)]), 1), False)

    def test_stands_that_are_not_come_to(self):
        # 1 alone can't be come to in one room, and leads to () alone.
        for number in (0, 1, 7, 10 ** 20):
            self.assertIs(self.told(("none", NEVER + [((1,), number)]), 1), True)
        self.assertIs(self.told(("none", NEVER + [((2,), 0)]), 1), False)

    def test_stands_of_no_kind(self):
        for odd in ((1, 0), (0, 0), (3,), (-1,), (True,), (False,), (None,), ("0",), ((0,),), [0], [], None, 0, "", True):
            self.assertIs(self.plan(paper=PAPER + [(odd, 0)]), False, odd)
            self.assertIs(self.told(("none", NEVER + [(odd, 0)]), 1), False, odd)

    def test_none_with_a_stand_in_which_all_asked_ones_are(self):
        self.assertIs(self.told(("none", PAPER), 2), False)
        self.assertIs(self.told(("none", PAPER), 2, NET, (0, 1)), False)
        self.assertIs(self.told(("none", PAPER), 2, NET, (0, 1, 2)), True)
        self.assertIs(self.told(NONE, 1, NET, (0,)), False)
        self.assertIs(self.told(NONE, 1, NET, (0, 1)), True)

    def test_lists_and_tuples_exchanged(self):
        for thing in (list(GOOD), ("plan", tuple(PLAN), 3, PAPER), ("plan", PLAN, 3, tuple(PAPER)),
                      ("plan", [list(move) for move in PLAN], 3, PAPER), ("plan", PLAN, 3, [list(p) for p in PAPER]),
                      ("plan", PLAN, 3, [(list(stand), number) for stand, number in PAPER]),
                      ("plan", PLAN, 3, [(stand, number, 0) for stand, number in PAPER]),
                      ("plan", PLAN, 3), ("plan", PLAN, PAPER), ("plan", PAPER), GOOD + (None,), ("plan", 3, PLAN, PAPER),
                      ("plan", PAPER, 3, PLAN), ("none", PLAN, 3, PAPER), ("Plan", PLAN, 3, PAPER), PLAN, PAPER,
                      (["plan"], PLAN, 3, PAPER), (("plan",), PLAN, 3, PAPER), (None, PLAN, 3, PAPER)):
            self.assertIs(self.told(thing), False, thing)
        for thing in (list(NONE), ("none", tuple(NEVER)), ("none", NEVER, None), ("none",), ("plan", NEVER), (NEVER,),
                      ("none", [list(pair) for pair in NEVER]), (NEVER, "none"), (None, NEVER), ("none", 0),
                      ("none", NEVER, NEVER, NEVER), NEVER, (["none"], NEVER)):
            self.assertIs(self.told(thing, 1), False, thing)

    def test_odd_things(self):
        for thing in ODD_THINGS:
            for rooms in (1, 2):
                for odd in (thing, (thing, NEVER), ("none", thing), ("plan", thing), (thing,) + GOOD[1:],
                            ("plan", thing, 3, PAPER), ("plan", PLAN, thing, PAPER), ("plan", PLAN, 3, thing),
                            GOOD + (thing,), NONE + (thing,), ("none", NEVER + [thing]), ("none", [thing]),
                            ("plan", PLAN, 3, PAPER + [thing]), ("plan", PLAN, 3, PAPER[:-1] + [thing]),
                            ("plan", PLAN + [thing], 3, PAPER), ("plan", [thing] + PLAN, 3, PAPER),
                            ("plan", PLAN, 3, PAPER[:-1] + [(thing, 3)]),
                            ("plan", PLAN, 3, PAPER[:-1] + [(PAPER[-1][0], thing)])):
                    self.assertIs(self.told(odd, rooms), False, odd)
        for thing in (nested(GOOD, 15, tuple), nested(GOOD, 15, list), (GOOD,), [GOOD]):
            self.assertIs(self.told(thing), False)


class TestToldThings(Asked):
    SMALL = [ONE, ((), ()), MIXED, row(5), all_ahead(5), square(2, 3), ladder(2), TWICE] + chance_nets(152, 25, 7)

    def test_takes_what_least_steps_tells(self):
        dice = random.Random(153)
        for net, asked in asks(self.SMALL, 154, 2):
            for rooms in range(1, len(net) + 2):
                told = least_steps(net, asked, rooms)
                self.assertIs(self.told(told, rooms, net, asked), True)
                dice.shuffle(told[-1])
                self.assertIs(self.told(told, rooms, net, asked), True)
                dropped = dice.randrange(len(told[-1]))
                left = told[:-1] + (told[-1][:dropped] + told[-1][dropped + 1:],)
                self.assertIs(self.told(left, rooms, net, asked), False)

    def test_works_done_again(self):
        for rooms, steps in ((3, 15), (4, 11), (5, 10), (6, 9)):
            told = least_steps(BACK_AND_FORTH, (8,), rooms)
            self.assertEqual(told[2], steps)
            self.assertIs(self.told(told, rooms, BACK_AND_FORTH, (8,)), True)
            self.assertIs(self.told(told, rooms + 1, BACK_AND_FORTH, (8,)), False)
            self.assertIs(self.told(told, rooms - 1, BACK_AND_FORTH, (8,)), False)

    def test_nets_of_ten_works(self):
        dice = random.Random(155)
        nets = [all_ahead(10), square(2, 5), ladder(4), BACK_AND_FORTH + ((8,),)] + [chance_net(dice, 10) for _ in range(3)]
        for net, asked in asks(nets, 156, 1):
            fewest = fewest_by_words(net, asked)
            for rooms in {max(1, fewest - 1), fewest, 10, 400}:
                self.assertIs(self.told(least_steps(net, asked, rooms), rooms, net, asked), True)

    def test_bent_things_by_words(self):
        dice = random.Random(157)
        taken = 0
        for net, asked in asks(self.SMALL, 158, 1):
            for rooms in range(1, min(5, len(net) + 1)):
                told = least_steps(net, asked, rooms)
                for _ in range(8):
                    thing = bent(dice, told)
                    if dice.random() < 0.3:
                        thing = bent(dice, thing)
                    due = shows_by_words(net, asked, rooms, thing)
                    self.assertIs(self.told(thing, rooms, net, asked), due, (net, asked, rooms, thing))
                    taken += due
        self.assertGreater(taken, 40)

    def test_other_asked_works(self):
        dice = random.Random(159)
        for net, asked in asks(self.SMALL, 160, 1):
            rooms = dice.randint(1, len(net))
            told, other = least_steps(net, asked, rooms), chance_asked(dice, net)
            self.assertIs(self.told(told, rooms, net, other), shows_by_words(net, other, rooms, told))


if __name__ == "__main__":
    unittest.main()
