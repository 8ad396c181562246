import copy
import itertools
import random
import unittest

from fewrooms.errors import Barred, RoomError
from fewrooms.unlike import fault_there, least_there, moved_there, shows_there
from samples import (MIXED, ODD_THINGS, ONE, all_ahead, bent, chance_asked, chance_net, is_a_number, layout_by_moves,
                     least_by_words, lists_in, nested, row, spoil, square, there_moves_by_words, there_reached_by_words)

# 1 and 2 need 0, and 3 needs 1 and 2.
NET = ((), (0,), (0,), (1, 2))
WIDES = (2, 1, 3, 2)
SIZES = (3, 1, 2)


def none_first(layout):
    return tuple((work is not None, work) for work in layout)


def drawn(seed, many, most_works, most_rooms):
    dice = random.Random(seed)
    for _ in range(many):
        net = chance_net(dice, dice.randint(1, most_works))
        most = dice.choice((1, 2, 3, 9))
        wides = tuple(dice.randint(1, most) for _ in net)
        sizes = tuple(dice.randint(1, most) for _ in range(dice.randint(1, most_rooms)))
        yield dice, net, wides, sizes, chance_asked(dice, net)


def chance_layout(dice, net, rooms):
    works = dice.sample(range(len(net)), dice.randint(0, min(len(net), rooms)))
    layout = works + [None] * (rooms - len(works))
    dice.shuffle(layout)
    return tuple(layout)


def fault_by_words(net, wides, sizes, layout, move):
    if move[0] == "clear":
        return "empty" if layout[move[1]] is None else None
    word, work, room = move
    due = [("there", work in layout), ("needs", not set(net[work]) <= set(layout)), ("taken", layout[room] is not None),
           ("small", sizes[room] < wides[work])]
    return next((fault for fault, is_due in due if is_due), None)


def is_a_move(net, sizes, thing):
    if type(thing) is not tuple or not thing or type(thing[0]) is not str:
        return False
    bounds = {"do": (len(net), len(sizes)), "clear": (len(sizes),)}.get(thing[0], ())
    return 0 < len(bounds) == len(thing) - 1 and all(
        is_a_number(part) and 0 <= part < bound for part, bound in zip(thing[1:], bounds))


def is_a_layout(net, wides, sizes, thing):
    if type(thing) is not tuple or len(thing) != len(sizes):
        return False
    works = [(work, size) for work, size in zip(thing, sizes) if work is not None]
    if not all(is_a_number(work) and 0 <= work < len(net) and wides[work] <= size for work, size in works):
        return False
    return len({work for work, size in works}) == len(works)


def shows_by_words(net, wides, sizes, asked, thing):
    if type(thing) is not tuple or len(thing) < 2 or type(thing[0]) is not str or type(thing[1]) is not list:
        return False
    if thing[0] == "plan" and len(thing) == 3:
        plan, steps = thing[1:]
        if not all(is_a_move(net, sizes, move) for move in plan) or not is_a_number(steps):
            return False
        layout = layout_by_moves(net, wides, sizes, plan)
        return (layout is not None and set(asked) <= set(layout)
                and steps == len([move for move in plan if move[0] == "do"]))
    if thing[0] == "none" and len(thing) == 2:
        layouts = thing[1]
        if not all(is_a_layout(net, wides, sizes, layout) for layout in layouts):
            return False
        return ((None,) * len(sizes) in layouts and not any(set(asked) <= set(layout) for layout in layouts) and all(
            further in layouts for layout in set(layouts)
            for move, further in there_moves_by_words(net, wides, sizes, layout)))
    return False


class TestFaultThere(unittest.TestCase):
    def check(self, layout, move, word, net=NET, wides=WIDES, sizes=SIZES):
        before = copy.deepcopy((net, wides, sizes, layout, move))
        self.assertEqual(fault_there(net, wides, sizes, layout, move), word)
        if word is None:
            told = moved_there(net, wides, sizes, layout, move)
            self.assertIs(type(told), tuple)
            self.assertEqual(told, dict(there_moves_by_words(net, wides, sizes, layout))[move])
        else:
            with self.assertRaises(RoomError) as caught:
                moved_there(net, wides, sizes, layout, move)
            self.assertIs(type(caught.exception), Barred)
            self.assertEqual((caught.exception.move, caught.exception.word), (0, word))
        self.assertEqual((net, wides, sizes, layout, move), before)

    def test_do(self):
        self.check((None, None, None), ("do", 0, 0), None)
        self.check((None, None, None), ("do", 0, 2), None)
        self.check((None, None, 0), ("do", 1, 1), None)
        self.check((0, None, None), ("do", 0, 2), "there")
        self.check((None, None, None), ("do", 1, 0), "needs")
        self.check((1, None, None), ("do", 3, 2), "needs")
        self.check((0, None, None), ("do", 1, 0), "taken")
        self.check((None, None, None), ("do", 0, 1), "small")
        self.check((None, None, 0), ("do", 2, 1), "small")

    def test_do_the_one_due_first(self):
        self.check((0, None, None), ("do", 0, 0), "there")
        self.check((0, None, None), ("do", 0, 1), "there")
        self.check((1, None, None), ("do", 1, 0), "there")
        self.check((3, None, None), ("do", 2, 0), "needs")
        self.check((None, 1, None), ("do", 2, 1), "needs")
        self.check((None, None, None), ("do", 2, 1), "needs")
        self.check((0, 1, None), ("do", 2, 1), "taken")
        self.check((0, 1, None), ("do", 2, 2), "small")

    def test_just_as_wide(self):
        self.check((None,), ("do", 0, 0), None, ONE, (9,), (9,))
        self.check((None,), ("do", 0, 0), "small", ONE, (9,), (8,))
        self.check((None,), ("do", 0, 0), None, ONE, (1,), (1,))

    def test_clear(self):
        self.check((0, None, None), ("clear", 0), None)
        self.check((2, 1, 3), ("clear", 1), None)
        self.check((0, None, None), ("clear", 1), "empty")
        self.check((None, None, None), ("clear", 0), "empty")
        # The room is told, not the work.
        self.check((1, None, None), ("clear", 1), "empty")
        self.check((None, 0, None), ("clear", 0), "empty")

    def test_the_layout_behind(self):
        self.assertEqual(moved_there(NET, WIDES, SIZES, (None, 1, 0), ("do", 2, 0)), (2, 1, 0))
        self.assertEqual(moved_there(NET, WIDES, SIZES, (2, 1, 0), ("clear", 2)), (2, 1, None))
        self.assertEqual(moved_there(NET, WIDES, SIZES, (2, 1, None), ("do", 3, 2)), (2, 1, 3))
        self.assertEqual(moved_there(NET, WIDES, SIZES, (0, None, None), ("clear", 0)), (None, None, None))

    def test_by_words(self):
        seen = set()
        for dice, net, wides, sizes, asked in drawn(201, 150, 6, 5):
            moves = list(itertools.product(("do",), range(len(net)), range(len(sizes))))
            moves += [("clear", room) for room in range(len(sizes))]
            for _ in range(5):
                layout = chance_layout(dice, net, len(sizes))
                for move in moves:
                    word = fault_by_words(net, wides, sizes, layout, move)
                    self.check(layout, move, word, net, wides, sizes)
                    seen.add((move[0], word))
        self.assertEqual(len(seen), 5 + 2)


class TestLeastThere(unittest.TestCase):
    def check(self, net, wides, sizes, asked):
        told = least_there(net, wides, sizes, asked)
        self.assertIs(type(told), tuple)
        reached = there_reached_by_words(net, wides, sizes)
        ends = [steps for layout, steps in reached.items() if set(asked) <= set(layout)]
        self.assertIs(type(told[1]), list)
        self.assertTrue(all(type(part) is tuple for part in told[1]))
        self.assertIs(shows_there(net, wides, sizes, asked, told), True)
        if not ends:
            self.assertEqual((len(told), told[0]), (2, "none"))
            self.assertEqual(told[1], sorted(reached, key=none_first))
            return None
        word, plan, steps = told
        self.assertEqual(word, "plan")
        self.assertIs(type(steps), int)
        self.assertEqual(steps, min(ends))
        self.assertEqual(steps, len([move for move in plan if move[0] == "do"]))
        self.assertLessEqual(set(asked), set(layout_by_moves(net, wides, sizes, plan)))
        return steps

    def test_as_told(self):
        self.assertEqual(least_there(ONE, (1,), (1,), (0,)), ("plan", [("do", 0, 0)], 1))
        self.assertEqual(least_there(ONE, (2,), (1, 1, 3), (0,)), ("plan", [("do", 0, 2)], 1))
        self.assertEqual(least_there(ONE, (2,), (1,), (0,)), ("none", [(None,)]))
        self.assertEqual(least_there(row(2), (1, 2), (1, 1), (1,)), ("none", [
            (None, None), (None, 0), (0, None)]))
        self.assertEqual(least_there(row(2), (1, 1), (1,), (1,)), ("none", [(None,), (0,)]))

    def test_none_ahead_of_all_numbers(self):
        self.assertEqual(least_there(((), ()), (1, 2), (1, 1), (1,)), ("none", [(None, None), (None, 0), (0, None)]))
        self.assertEqual(least_there(((), (), ()), (1, 1, 3), (2, 1), (2,)), ("none", [
            (None, None), (None, 0), (None, 1), (0, None), (0, 1), (1, None), (1, 0)]))

    def test_a_room_that_must_be_left_for_a_wide_one(self):
        # 0 and 1 both fit the wide room alone or the narrow one, and 2 the wide one alone.
        net = ((), (0,), (1,))
        self.assertEqual(self.check(net, (1, 1, 2), (2, 1), (2,)), 3)
        # In the wide room 0 has to be cleared, and is done again in no other; 1 is wide, too.
        self.assertIsNone(self.check(net, (2, 1, 2), (1, 1), (2,)))
        self.assertIsNone(self.check(net, (2, 2, 1), (2, 1), (2,)))
        self.assertEqual(self.check(net, (2, 1, 2), (2, 1), (2,)), 3)

    def test_works_done_again(self):
        # Asked for both: 0 has to be done anew in the other room.
        net = ((), (0,), (1,))
        self.assertEqual(self.check(net, (1, 1, 2), (2, 1), (0, 2)), 4)
        self.assertEqual(self.check(net, (1, 1, 2), (2, 1, 1), (0, 2)), 3)

    def test_by_going_through_all_layouts(self):
        none = 0
        for dice, net, wides, sizes, asked in drawn(202, 250, 5, 4):
            none += self.check(net, wides, sizes, asked) is None
        self.assertTrue(50 < none < 200, none)

    def test_six_works_in_five_rooms(self):
        for net in (row(6), all_ahead(6), square(2, 3), MIXED):
            self.check(net, (1, 2, 3, 4, 5, 6), (2, 3, 4, 5, 6), (5,))
            self.check(net, (1, 1, 2, 1, 1, 2), (1, 2, 1, 2, 1), (5,))
        self.check(((),) * 6, (1,) * 6, (1,) * 5, (0, 2, 3, 5))

    def test_rooms_all_of_one_size(self):
        for dice, net, wides, sizes, asked in drawn(203, 80, 6, 4):
            self.assertEqual(self.check(net, (3,) * len(net), (3,) * len(sizes), asked),
                             least_by_words(net, asked, len(sizes)))
            self.assertEqual(self.check(net, wides, (9,) * len(sizes), asked), least_by_words(net, asked, len(sizes)))

    def test_one_to_four_asked_works(self):
        for asked in ((3,), (0, 3), (1, 2, 3), (0, 1, 2, 3)):
            for sizes in ((3,), (3, 2), (3, 2, 1), (3, 2, 2, 1), (3, 3, 2, 2, 1)):
                told = self.check(NET, WIDES, sizes, asked)
                self.assertTrue(told is None or len(sizes) >= len(asked))

    def test_told_lists_are_the_askers_own(self):
        for sizes in ((3, 1, 2), (3, 1), (1, 1, 3, 2, 2)):
            one, other = least_there(NET, WIDES, sizes, (3,)), least_there(NET, WIDES, sizes, (3,))
            self.assertEqual(one, other)
            self.assertEqual(len({id(part) for part in lists_in(one) + lists_in(other)}), 2)
            kept = copy.deepcopy(one)
            spoil(one)
            self.assertEqual((other, least_there(NET, WIDES, sizes, (3,))), (kept, kept))


class TestShowsThere(unittest.TestCase):
    PLAN = [("do", 0, 2), ("do", 1, 1), ("do", 2, 0), ("clear", 2), ("do", 3, 2)]
    # In these two rooms 0 takes the one that 2 wants.
    TIGHT = (3, 1)
    LAYOUTS = sorted(there_reached_by_words(NET, WIDES, TIGHT), key=none_first)

    def told(self, thing, sizes=SIZES, net=NET, wides=WIDES, asked=(3,)):
        before = copy.deepcopy(thing)
        told = shows_there(net, wides, sizes, asked, thing)
        self.assertEqual(repr(thing), repr(before))
        self.assertIs(shows_there(net, wides, sizes, asked, thing), told)
        return told

    def none(self, layouts, **more):
        return self.told(("none", layouts), self.TIGHT, **more)

    def test_a_plan_and_none(self):
        self.assertIs(self.told(("plan", self.PLAN, 4)), True)
        self.assertIs(self.none(self.LAYOUTS), True)
        self.assertIs(self.told(("none", self.LAYOUTS)), False)
        self.assertIs(self.told(("plan", self.PLAN, 4), self.TIGHT), False)

    def test_more_steps_than_the_least(self):
        longer = [("do", 0, 0), ("clear", 0)] + self.PLAN + [("clear", 0)]
        self.assertIs(self.told(("plan", longer, 5)), True)
        self.assertIs(self.told(("plan", longer, 4)), False)
        self.assertIs(self.told(("plan", [("do", 0, 0), ("clear", 0)] * 50 + self.PLAN, 54)), True)

    def test_steps(self):
        for steps in (3, 5, 0, -4, 10 ** 20, None, "4", True, (4,), [4]):
            self.assertIs(self.told(("plan", self.PLAN, steps)), False, steps)
        self.assertIs(self.told(("plan", [("do", 0, 0)], 1), (1,), ONE, (1,), (0,)), True)
        self.assertIs(self.told(("plan", [("do", 0, 0)], True), (1,), ONE, (1,), (0,)), False)

    def test_plans_that_are_barred_or_end_without_an_asked_one(self):
        for plan in (self.PLAN[1:], self.PLAN[:-1], self.PLAN + [("clear", 2)], [], self.PLAN + [("do", 3, 2)],
                     self.PLAN + [("do", 0, 2)], self.PLAN[:3] + [("do", 3, 2)], [("do", 0, 1)] + self.PLAN[1:],
                     [("clear", 0)] + self.PLAN, self.PLAN + [("clear", 2), ("do", 3, 1)], self.PLAN * 2):
            for steps in (4, len([move for move in plan if move[0] == "do"])):
                self.assertIs(self.told(("plan", plan, steps)), False, plan)
        self.assertIs(self.told(("plan", self.PLAN, 4), asked=(0, 3)), False)
        self.assertIs(self.told(("plan", self.PLAN, 4), asked=(1, 2, 3)), True)

    def test_moves_of_no_kind(self):
        for odd in (("do", 3), ("do", 3, 2, 0), ["do", 3, 2], ("do", 3, True), ("do", True, 2), ("do", 3, -1), ("do", 3, 3),
                    ("do", 4, 2), ("do", -1, 2), ("do", "3", 2), ("do", 3, "2"), ("do", None, 2), ("do", 3, None), ("put", 3),
                    ("clear", 3), ("clear", -1), ("clear", True), ("clear", None), ("clear", 0, 0), ("clear",), (None, 3, 2),
                    ("Do", 3, 2), "do", None, 3, True, (), [], ("do", (3,), 2), ("do", [3], 2), (["do"], 3, 2)):
            self.assertIs(self.told(("plan", self.PLAN[:-1] + [odd], 4)), False, odd)
            self.assertIs(self.told(("plan", self.PLAN + [odd], 4)), False, odd)
            self.assertIs(self.told(("plan", self.PLAN + [odd], 5)), False, odd)
            self.assertIs(self.told(("plan", [odd] + self.PLAN, 4)), False, odd)
        self.assertIs(self.told(("plan", [("do", False, 2)] + self.PLAN[1:], 4)), False)

    def test_layouts_in_any_order_and_twice(self):
        self.assertIs(self.none(self.LAYOUTS[::-1]), True)
        self.assertIs(self.none(self.LAYOUTS * 3), True)
        for layout in self.LAYOUTS:
            self.assertIs(self.none([layout] + self.LAYOUTS), True)

    def test_a_layout_left_out(self):
        for layout in self.LAYOUTS:
            self.assertIs(self.none([one for one in self.LAYOUTS if one != layout]), False, layout)
        self.assertIs(self.none([]), False)
        # None of them is left by a move, but all None is missing.
        self.assertIs(self.told(("none", []), (1,), ONE, (2,), (0,)), False)
        self.assertIs(self.told(("none", [(None,)]), (1,), ONE, (2,), (0,)), True)

    def test_layouts_that_are_not_come_to(self):
        # In the one narrow room, 1 is never come to, and nothing can be done beside it.
        some = [(None,), (0,)]
        self.assertIs(self.told(("none", some), (1,), row(3), (1, 1, 1), (2,)), True)
        self.assertIs(self.told(("none", some + [(1,)]), (1,), row(3), (1, 1, 1), (2,)), True)
        self.assertIs(self.told(("none", some + [(2,)]), (1,), row(3), (1, 1, 1), (2,)), False)
        self.assertIs(self.told(("none", some + [(1,)]), (1,), row(3), (1, 2, 1), (2,)), False)

    def test_layouts_that_do_not_fit(self):
        for layout in ((None, 0), (1, 0), (0, 2), (None, 2), (None, 3)):
            self.assertIs(self.none(self.LAYOUTS + [layout]), False, layout)
        # One that does not fit, though it is closed with it: from there a clear alone is let by.
        self.assertIs(self.told(("none", [(None,), (0,)]), (1,), row(2), (2, 1), (1,)), False)
        self.assertIs(self.told(("none", [(None,), (0,)]), (2,), row(2), (2, 1), (1,)), True)

    def test_a_work_twice(self):
        self.assertIs(self.none(self.LAYOUTS + [(1, 1)]), False)
        wide = sorted(there_reached_by_words(row(2), (1, 3), (2, 2)), key=none_first)
        self.assertIs(self.told(("none", wide), (2, 2), row(2), (1, 3), (1,)), True)
        self.assertIs(self.told(("none", wide + [(0, 0)]), (2, 2), row(2), (1, 3), (1,)), False)

    def test_layouts_with_all_asked_ones(self):
        self.assertIs(self.none(self.LAYOUTS, asked=(1,)), False)
        self.assertIs(self.none(self.LAYOUTS, asked=(0, 1)), False)
        self.assertIs(self.none(self.LAYOUTS, asked=(0,)), False)
        self.assertIs(self.none(self.LAYOUTS, asked=(1, 2, 3)), True)
        self.assertIs(self.none(self.LAYOUTS, asked=(2, 3)), True)
        self.assertIs(self.none(self.LAYOUTS + [(3, None)]), False)

    def test_layouts_of_no_kind(self):
        for odd in ((None,), (None, None, None), [None, None], (), (4, None), (-1, None), (True, None), (None, True),
                    (False, None), ("0", None), ((0,), None), ([0], None), ([], None), None, 0, True, "", "00"):
            self.assertIs(self.none(self.LAYOUTS + [odd]), False, odd)
            self.assertIs(self.none([odd] + self.LAYOUTS[1:]), False, odd)

    def test_lists_and_tuples_exchanged(self):
        plan, layouts = self.PLAN, self.LAYOUTS
        for thing in (["plan", plan, 4], ("plan", tuple(plan), 4), ("plan", [list(move) for move in plan], 4), ("plan", plan),
                      ("plan", plan, 4, None), ("plan", 4, plan), ("Plan", plan, 4), ("none", plan, 4), (plan, 4), plan,
                      (["plan"], plan, 4), (("plan",), plan, 4), (None, plan, 4), ("plan", plan, 4, layouts)):
            self.assertIs(self.told(thing), False, thing)
        for thing in (["none", layouts], ("none", tuple(layouts)), ("none", [list(layout) for layout in layouts]),
                      ("none", layouts, 0), ("none",), ("plan", layouts), (layouts,), (layouts, "none"), layouts,
                      (["none"], layouts), ("none", [layouts]), ("none", layouts, layouts), (None, layouts)):
            self.assertIs(self.told(thing, self.TIGHT), False, thing)

    def test_odd_things(self):
        plan, layouts = self.PLAN, self.LAYOUTS
        for thing in ODD_THINGS:
            for sizes in (SIZES, self.TIGHT):
                for odd in (thing, (thing, layouts), ("none", thing), ("plan", thing, 4), ("plan", plan, thing),
                            (thing, plan, 4), ("plan", plan, 4, thing), ("none", layouts, thing), ("none", [thing]),
                            ("none", layouts + [thing]), ("none", [thing] + layouts[1:]), ("plan", plan + [thing], 4),
                            ("plan", [thing] + plan, 4), ("plan", plan[:-1] + [("do", thing, 2)], 4),
                            ("plan", plan[:-1] + [("do", 3, thing)], 4), ("plan", plan[:-1] + [(thing, 3, 2)], 4)):
                    self.assertIs(self.told(odd, sizes), False, odd)
        for thing in (nested(("plan", plan, 4), 15, tuple), nested(("plan", plan, 4), 15, list), [("plan", plan, 4)]):
            self.assertIs(self.told(thing), False)

    def test_bent_things_by_words(self):
        taken = 0
        for dice, net, wides, sizes, asked in drawn(204, 250, 4, 3):
            told = least_there(net, wides, sizes, asked)
            for _ in range(8):
                thing = bent(dice, told)
                if dice.random() < 0.3:
                    thing = bent(dice, thing)
                due = shows_by_words(net, wides, sizes, asked, thing)
                self.assertIs(self.told(thing, sizes, net, wides, asked), due, (net, wides, sizes, asked, thing))
                taken += due
        self.assertGreater(taken, 100)

    def test_other_sizes_and_other_asked_works(self):
        for dice, net, wides, sizes, asked in drawn(205, 150, 4, 3):
            told = least_there(net, wides, sizes, asked)
            other = tuple(dice.randint(1, 9) for _ in sizes)
            self.assertIs(self.told(told, other, net, wides, asked), shows_by_words(net, wides, other, asked, told))
            ask = chance_asked(dice, net)
            self.assertIs(self.told(told, sizes, net, wides, ask), shows_by_words(net, wides, sizes, ask, told))


if __name__ == "__main__":
    unittest.main()
