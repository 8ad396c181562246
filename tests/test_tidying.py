import copy
import random
import unittest

from fewrooms.nets import all_needed
from fewrooms.plainly import deep_plan, plain_plan
from fewrooms.plans import does, most_of, steps_of
from fewrooms.stairs import least_steps
from fewrooms.tidying import shortened, tidied
from samples import (BACK_AND_FORTH, MIXED, ONE, TWICE, all_ahead, chance_net, chance_nets, chance_plan, first_fault,
                     ladder, plan_does, row, square, stands_behind)


def stays_by_words(net, plan):
    """For each do, in order: its place, the place of its clear or None, its work, and the places of the do's that need it."""
    stays = []
    for place, (word, work) in enumerate(plan):
        if word == "do":
            clears = [later for later in range(place, len(plan)) if plan[later] == ("clear", work)]
            clear = clears[0] if clears else None
            within = range(place + 1, len(plan) if clear is None else clear)
            users = [later for later in within if plan[later][0] == "do" and work in net[plan[later][1]]]
            stays.append((place, clear, work, users))
    return stays


def tidied_by_words(net, plan, asked):
    plan = list(plan)
    while True:
        useless = [stay for stay in stays_by_words(net, plan)
                   if not stay[3] and not (stay[2] in asked and stay[1] is None)]
        if not useless:
            break
        plan = [move for place, move in enumerate(plan) if place not in useless[0][:2]]
    clears = {}
    for place, clear, work, users in stays_by_words(net, plan):
        if work not in asked or clear is not None:
            clears.setdefault(users[-1], []).append(("clear", work))
    told = []
    for place, move in enumerate(plan):
        if move[0] == "do":
            told += [move] + sorted(clears.get(place, []))
    return told


def next_short(net, rooms, plan, asked):
    for place, (word, work) in enumerate(plan):
        again = [later for later in range(place, len(plan)) if plan[later] == ("do", work)]
        if word == "clear" and again:
            less = plan[:place] + plan[place + 1:again[0]] + plan[again[0] + 1:]
            if plan_does(net, rooms, less, asked):
                return less
    return None


def shortened_by_words(net, rooms, plan, asked):
    plan = tidied_by_words(net, plan, asked)
    less = next_short(net, rooms, plan, asked)
    while less is not None:
        plan = tidied_by_words(net, less, asked)
        less = next_short(net, rooms, plan, asked)
    return plan


def drawn_plans(seed, many, most_works, most_moves, most_needs=3):
    """Drawn nets and plans, with some of the results at their end as asked ones, and the rooms that they take."""
    dice = random.Random(seed)
    while many:
        net = chance_net(dice, dice.randint(1, most_works), most_needs)
        plan = chance_plan(dice, net, dice.randint(1, len(net) + 1), dice.randint(1, most_moves))
        stand = stands_behind(plan)[-1]
        if stand:
            asked = tuple(sorted(dice.sample(stand, dice.randint(1, min(4, len(stand))))))
            yield net, plan, asked, max(len(one) for one in stands_behind(plan))
            many -= 1


def least_plans():
    """Plans of the least steps, in few rooms, so that works are done again."""
    nets = [TWICE, BACK_AND_FORTH, row(6), square(2, 3), MIXED, BACK_AND_FORTH + ((2, 8),)] + chance_nets(171, 40, 8)
    for net in nets:
        asked = (0, len(net) - 1) if len(net) > 1 else (0,)
        for rooms in range(1, len(net) + 1):
            told = least_steps(net, asked, rooms)
            if told[0] == "plan":
                yield net, told[1], asked, rooms
                break


class Tidy(unittest.TestCase):
    def check_kinds(self, plan):
        self.assertIs(type(plan), list)
        self.assertTrue(all(type(move) is tuple for move in plan))


class TestTidied(Tidy):
    def check(self, net, plan, asked):
        kept = copy.deepcopy(plan)
        told = tidied(net, plan, asked)
        self.assertEqual(plan, kept)
        self.check_kinds(told)
        self.assertIsNot(told, plan)
        self.assertEqual(told, tidied_by_words(net, plan, asked), (net, plan, asked))
        rooms = max(len(stand) for stand in stands_behind(plan))
        self.assertIsNone(first_fault(net, rooms, told))
        self.assertEqual(stands_behind(told)[-1], asked)
        self.assertLessEqual(steps_of(told), steps_of(plan))
        for place, clear, work, users in stays_by_words(net, told):
            self.assertTrue(users or (work in asked and clear is None))
        self.assertEqual(tidied(net, told, asked), told)
        return told

    def test_what_is_tidy_stays(self):
        for net in (ONE, MIXED, row(6), square(3, 3), all_ahead(5), ladder(3)):
            for asked in ((len(net) - 1,), (0,), tuple(range(len(net)))[-2:]):
                for plan in (plain_plan(net, asked), deep_plan(net, asked)):
                    self.assertEqual(self.check(net, plan, asked), plan)

    def test_stays_that_no_do_needs(self):
        plan = [("do", 0), ("do", 1), ("clear", 1), ("do", 2), ("clear", 0)]
        self.assertEqual(self.check(((), (), (0,)), plan, (2,)), [("do", 0), ("do", 2), ("clear", 0)])
        plan = [("do", 0), ("do", 1), ("do", 2), ("do", 3)]
        self.assertEqual(self.check(((),) * 4, plan, (2,)), [("do", 2)])

    def test_again_and_again(self):
        # None needs 4, so none needs 3, and so on.
        plan = [("do", work) for work in range(5)]
        self.assertEqual(self.check(row(5), plan, (0,)), [("do", 0)])
        self.assertEqual(self.check(row(5), plan, (2,)), [("do", 0), ("do", 1), ("clear", 0), ("do", 2), ("clear", 1)])
        plan += [("clear", 4), ("clear", 3), ("clear", 2)]
        self.assertEqual(self.check(row(5), plan, (1,)), [("do", 0), ("do", 1), ("clear", 0)])

    def test_clears_just_behind_the_last_do(self):
        plan = [("do", work) for work in range(4)] + [("do", 5)]
        self.assertEqual(self.check(MIXED, plan, (5,)), [
            ("do", 0), ("do", 1), ("do", 2), ("do", 3), ("clear", 1), ("clear", 2), ("do", 5), ("clear", 0), ("clear", 3)])
        late = plan[:4] + [("clear", 2), ("clear", 1), ("do", 5), ("clear", 3), ("clear", 0)]
        self.assertEqual(self.check(MIXED, late, (5,)), tidied(MIXED, plan, (5,)))

    def test_clears_behind_one_do_rise(self):
        net = ((),) * 6 + ((0, 2, 3, 5),)
        plan = [("do", work) for work in (5, 3, 0, 2, 6)]
        self.assertEqual(self.check(net, plan + [("clear", 5), ("clear", 0)], (6,)),
                         plan + [("clear", work) for work in (0, 2, 3, 5)])

    def test_works_done_again(self):
        # The first stay of 0 is of use for 1, the second for none, the third for 2.
        net = ((), (0,), (0, 1))
        plan = [("do", 0), ("do", 1), ("clear", 0), ("do", 0), ("clear", 0), ("do", 0), ("do", 2)]
        self.assertEqual(self.check(net, plan, (2,)), [
            ("do", 0), ("do", 1), ("clear", 0), ("do", 0), ("do", 2), ("clear", 0), ("clear", 1)])
        # A work done again while nobody needs it.
        plan = [("do", 0), ("do", 1), ("clear", 0), ("do", 0), ("clear", 0)]
        self.assertEqual(self.check(net, plan, (1,)), [("do", 0), ("do", 1), ("clear", 0)])

    def test_asked_works_done_more_than_once(self):
        net = ((), (0,))
        # The first stay of 0 is of use for 1, and is cleared; its last one is asked for.
        plan = [("do", 0), ("do", 1), ("clear", 0), ("do", 0)]
        self.assertEqual(self.check(net, plan, (0, 1)), plan)
        # Cleared between, and of no use there.
        plan = [("do", 0), ("clear", 0), ("do", 0), ("do", 1)]
        self.assertEqual(self.check(net, plan, (0, 1)), [("do", 0), ("do", 1)])
        plan = [("do", 0), ("do", 1), ("clear", 1), ("clear", 0), ("do", 0), ("do", 1)]
        self.assertEqual(self.check(net, plan, (1,)), [("do", 0), ("do", 1), ("clear", 0)])
        plan = [("do", 0), ("do", 1), ("clear", 1), ("do", 1), ("clear", 1), ("do", 1)]
        self.assertEqual(self.check(net, plan, (0, 1)), [("do", 0), ("do", 1)])
        self.assertEqual(self.check(net, plan, (0,)), [("do", 0)])

    def test_an_asked_stay_that_is_cleared_early(self):
        # 1 is asked; its first stay is of use for 2 alone, and is given its clear there.
        net = ((), (), (1,))
        plan = [("do", 1), ("do", 2), ("do", 0), ("clear", 1), ("do", 1)]
        self.assertEqual(self.check(net, plan, (1, 2)), [("do", 1), ("do", 2), ("clear", 1), ("do", 1)])

    def test_a_result_at_the_end_that_is_not_asked(self):
        plan = [("do", 0), ("do", 1), ("do", 2)]
        self.assertEqual(self.check(row(3), plan, (1,)), [("do", 0), ("do", 1), ("clear", 0)])
        self.assertEqual(self.check(row(3), plan, (2,)), [
            ("do", 0), ("do", 1), ("clear", 0), ("do", 2), ("clear", 1)])
        self.assertEqual(self.check(row(3), plan, (1, 2)), [("do", 0), ("do", 1), ("clear", 0), ("do", 2)])
        self.assertEqual(self.check(row(3), plan, (0, 1, 2)), plan)

    def test_drawn_plans_by_words(self):
        shorter = 0
        for net, plan, asked, rooms in drawn_plans(172, 500, 7, 40):
            shorter += len(self.check(net, plan, asked)) < len(plan)
        self.assertGreater(shorter, 100)
        for net, plan, asked, rooms in drawn_plans(173, 60, 10, 120):
            self.check(net, plan, asked)

    def test_least_plans(self):
        for net, plan, asked, rooms in least_plans():
            # They have the least steps, so nothing but clears can be left out.
            self.assertEqual(steps_of(self.check(net, plan, asked)), steps_of(plan))

    def test_rooms_never_rise(self):
        for net, plan, asked, rooms in drawn_plans(174, 200, 8, 60):
            told = tidied(net, plan, asked)
            self.assertLessEqual(most_of(net, told), rooms)
            self.assertTrue(does(net, rooms, told, asked))

    def test_great_plans(self):
        net = row(400)
        forward = [("do", 0)]
        for work in range(1, 400):
            forward += [("do", work), ("clear", work - 1)]
        plan = forward + [("clear", 399)] + forward
        self.assertEqual(len(plan), 1599)
        self.assertEqual(tidied(net, plan, (399,)), forward)
        dice = random.Random(175)
        for _ in range(3):
            net = chance_net(dice, 400)
            plan = chance_plan(dice, net, 400, 2000)
            asked = stands_behind(plan)[-1][-3:]
            told = tidied(net, plan, asked)
            self.assertEqual(stands_behind(told)[-1], asked)
            self.assertEqual(tidied(net, told, asked), told)

    def test_told_plans_are_the_askers_own(self):
        plan = plain_plan(MIXED, (5,))
        told, other = tidied(MIXED, plan, (5,)), tidied(MIXED, plan, (5,))
        self.assertIsNot(told, other)
        told.clear()
        self.assertEqual(tidied(MIXED, plan, (5,)), other)
        self.assertEqual(plan, other)


class TestShortened(Tidy):
    def check(self, net, rooms, plan, asked):
        kept = copy.deepcopy(plan)
        told = shortened(net, rooms, plan, asked)
        self.assertEqual(plan, kept)
        self.check_kinds(told)
        self.assertEqual(told, shortened_by_words(net, rooms, plan, asked), (net, rooms, plan, asked))
        self.assertTrue(plan_does(net, rooms, told, asked))
        self.assertEqual(stands_behind(told)[-1], asked)
        self.assertLessEqual(steps_of(told), steps_of(tidied(net, plan, asked)))
        self.assertIsNone(next_short(net, rooms, told, asked))
        self.assertEqual(shortened(net, rooms, told, asked), told)
        return told

    def test_a_work_done_again(self):
        plan = [("do", 0), ("do", 1), ("clear", 0), ("do", 2), ("clear", 1), ("do", 0), ("do", 3), ("clear", 0), ("clear", 2)]
        net = ((), (0,), (1,), (0, 2))
        # With 0 kept, 2 is done beside two results.
        self.assertEqual(self.check(net, 3, plan, (3,)), plain_plan(net, (3,)))
        # In the rooms that the plan takes, one more, and many, it is all the same here.
        self.assertEqual(self.check(net, 4, plan, (3,)), plain_plan(net, (3,)))
        self.assertEqual(self.check(net, 400, plan, (3,)), plain_plan(net, (3,)))

    def test_just_as_many_rooms_and_one_more(self):
        plan = least_steps(TWICE, (6,), 3)[1]
        self.assertEqual(steps_of(self.check(TWICE, 3, plan, (6,))), 8)
        self.assertEqual(steps_of(self.check(TWICE, 4, plan, (6,))), 7)
        self.assertEqual(steps_of(self.check(TWICE, 400, plan, (6,))), 7)
        plan = least_steps(BACK_AND_FORTH, (8,), 3)[1]
        steps = [steps_of(self.check(BACK_AND_FORTH, rooms, plan, (8,))) for rooms in (3, 4, 5, 6, 7, 400)]
        self.assertEqual(steps[0], 15)
        self.assertEqual(steps[3:], [9, 9, 9])
        self.assertEqual(steps, sorted(steps, reverse=True))

    def test_the_first_one_by_its_place(self):
        # Either of 0 and 1 may be kept in four rooms while 5 is done, but not both: the one that is cleared first is.
        net = ((), (), (0,), (1, 2), (), (3, 4), (0, 1, 5))
        plan = [("do", 0), ("do", 2), ("clear", 0), ("do", 1), ("do", 3), ("clear", 1), ("clear", 2), ("do", 4), ("do", 5),
                ("clear", 3), ("clear", 4), ("do", 0), ("do", 1), ("do", 6), ("clear", 0), ("clear", 1), ("clear", 5)]
        self.assertEqual(self.check(net, 4, plan, (6,)), [
            ("do", 0), ("do", 2), ("do", 1), ("do", 3), ("clear", 1), ("clear", 2), ("do", 4), ("do", 5), ("clear", 3),
            ("clear", 4), ("do", 1), ("do", 6), ("clear", 0), ("clear", 1), ("clear", 5)])
        self.assertEqual(steps_of(self.check(net, 5, plan, (6,))), 7)

    def test_a_clear_just_ahead_of_the_do(self):
        plan = [("do", 0), ("do", 1), ("clear", 0), ("do", 0), ("do", 2), ("clear", 0)]
        net = ((), (0,), (0,))
        # Nothing lies between, so that 0 can be kept without a further room.
        self.assertEqual(self.check(net, 3, plan, (1, 2)), [("do", 0), ("do", 1), ("do", 2), ("clear", 0)])
        net = ((), (0,), (0, 1))
        plan = [("do", 0), ("do", 1), ("clear", 0), ("do", 0), ("do", 2)]
        self.assertEqual(self.check(net, 3, plan, (1, 2)), [("do", 0), ("do", 1), ("do", 2), ("clear", 0)])

    def test_asked_works_done_more_than_once(self):
        net = row(3)
        plan = [("do", 0), ("do", 1), ("clear", 0), ("do", 2), ("clear", 1), ("do", 0)]
        self.assertEqual(self.check(net, 2, plan, (0, 2)), plan)
        self.assertEqual(self.check(net, 3, plan, (0, 2)), [("do", 0), ("do", 1), ("do", 2), ("clear", 1)])

    def test_what_a_kept_result_makes_useless(self):
        # With 1 kept, 0 need not be done for it again.
        net = ((), (0,), (1,), (), (1, 2, 3))
        plan = [("do", 0), ("do", 1), ("clear", 0), ("do", 2), ("clear", 1), ("do", 0), ("do", 1), ("clear", 0), ("do", 3),
                ("do", 4)]
        told = self.check(net, 4, plan, (4,))
        self.assertEqual(steps_of(told), 5)
        self.assertEqual(told, [("do", 0), ("do", 1), ("clear", 0), ("do", 2), ("do", 3), ("do", 4), ("clear", 1),
                                ("clear", 2), ("clear", 3)])

    def test_plans_without_works_done_again(self):
        for net in (ONE, MIXED, row(10), square(3, 4), ladder(4)):
            for rooms in (len(net), 400):
                plan = plain_plan(net, (len(net) - 1,))
                self.assertEqual(self.check(net, rooms, plan, (len(net) - 1,)), plan)

    def test_least_plans(self):
        shorter = 0
        for net, plan, asked, rooms in least_plans():
            self.assertEqual(steps_of(self.check(net, rooms, plan, asked)), steps_of(plan))
            for more in (rooms + 1, rooms + 2, 400):
                told = self.check(net, more, plan, asked)
                shorter += len(told) < len(plan)
            self.assertEqual(steps_of(told), len(all_needed(net, asked)))
        self.assertGreater(shorter, 5)

    def test_drawn_plans_by_words(self):
        shorter = 0
        for net, plan, asked, rooms in drawn_plans(176, 400, 7, 60):
            tidy = tidied(net, plan, asked)
            for more in (rooms, rooms + 1, 400):
                told = self.check(net, more, plan, asked)
                shorter += len(told) < len(tidy)
        self.assertGreater(shorter, 50)

    def test_plans_of_three_hundred_moves(self):
        dice = random.Random(177)
        done = 0
        while done < 12:
            net = chance_net(dice, dice.randint(6, 12), 3)
            rooms = dice.randint(4, 6)
            plan = chance_plan(dice, net, rooms, 300)
            stand = stands_behind(plan)[-1]
            if len(stand) > 2:
                for more in (max(len(one) for one in stands_behind(plan)), rooms + 1, 400):
                    self.check(net, more, plan, stand[-2:])
                done += 1

    def test_many_works_done_again(self):
        # Works 0 to 19, each cleared behind the work that needs it, and all done again for the last one.
        net = ((),) * 20 + tuple((work,) for work in range(20)) + (tuple(range(20)),)
        plan = []
        for work in range(20):
            plan += [("do", work), ("do", 20 + work), ("clear", work), ("do", work), ("clear", work)]
        plan += [("do", work) for work in range(20)] + [("do", 40)]
        self.assertLessEqual(len(plan), 300)
        asked = (20, 25, 39, 40)
        for rooms in (41, 42, 400):
            self.assertTrue(plan_does(net, rooms, plan, asked))
            self.check(net, rooms, plan, asked)

    def test_told_plans_are_the_askers_own(self):
        plan = least_steps(TWICE, (6,), 3)[1]
        told, other = shortened(TWICE, 4, plan, (6,)), shortened(TWICE, 4, plan, (6,))
        self.assertIsNot(told, other)
        told.clear()
        self.assertEqual(shortened(TWICE, 4, plan, (6,)), other)


if __name__ == "__main__":
    unittest.main()
