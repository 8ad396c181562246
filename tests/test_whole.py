"""What is promised over the whole program."""

import importlib
import inspect
import pathlib
import random
import unittest

import fewrooms
from fewrooms.behind import number_behind, plan_behind, put_behind, rooms_behind
from fewrooms.cutcheck import shows_cut
from fewrooms.cuts import bracket, cut_bound, cut_paper
from fewrooms.errors import Barred, TooMany
from fewrooms.moves import fault_of, moved, moves_of
from fewrooms.nets import all_needed, is_tree
from fewrooms.nevercheck import shows_never
from fewrooms.plainly import deep_plan, plain_plan
from fewrooms.plans import does, most_of, played, steps_of
from fewrooms.shelf import least_far
from fewrooms.shelfcheck import shows_far
from fewrooms.squares import (row_net, row_plan, row_rooms, square_net, square_plan, square_rooms, step_net, step_plan,
                              step_rooms)
from fewrooms.staircheck import shows_steps
from fewrooms.stairs import least_steps, stair
from fewrooms.tidying import shortened, tidied
from fewrooms.trees import tree_plan, tree_rooms
from fewrooms.trying import fewest, never_paper
from fewrooms.unlike import least_there, shows_there
from fewrooms.wides import stretched, taken_by, wide_order, wide_rooms
from fewrooms.yard import Yard
from samples import (BACK_AND_FORTH, LEANT_ON, MIXED, ONE, TWICE, all_ahead, asks, chance_net, chance_nets, chance_plan,
                     chance_tree, chance_trees, full_tree, ladder, lists_in, row, spoil, square, stands_behind)

SMALL = [ONE, ((), ()), MIXED, LEANT_ON, TWICE, BACK_AND_FORTH, row(6), all_ahead(6), square(2, 3), full_tree(2), ladder(2)]
SMALL += [((),) * 5, row(10), square(2, 5), ladder(4)] + chance_nets(211, 40, 8)
GREAT = [row(40), square(5, 8), ladder(19), full_tree(4)] + chance_nets(212, 20, 40)

FILES = {
    "nets": {"is_net": "thing", "users_of": "net work", "all_needed": "net asked", "levels": "net", "ends_of": "net",
             "part_net": "net works", "is_tree": "net work", "beside": "one other"},
    "moves": {"fault_of": "net rooms stand move", "moved": "net rooms stand move", "moves_of": "net rooms stand"},
    "yard": {"Yard": "net rooms"},
    "plans": {"played": "net rooms plan", "steps_of": "plan", "most_of": "net plan", "does": "net rooms plan asked"},
    "tidying": {"tidied": "net plan asked", "shortened": "net rooms plan asked"},
    "trees": {"numbers_of": "net work", "tree_rooms": "net work", "tree_plan": "net work"},
    "wides": {"taken_by": "net wides work order", "stretched": "net wides work", "wide_rooms": "net wides work",
              "wide_order": "net wides work"},
    "trying": {"fewest": "net asked", "never_paper": "net asked rooms"},
    "nevercheck": {"shows_never": "net asked rooms thing"},
    "paths": {"all_paths": "net work", "sides_of": "net path", "shows_sides": "net path thing"},
    "cuts": {"cut_bound": "net work", "cut_paper": "net work", "bracket": "net work"},
    "cutcheck": {"shows_cut": "net work rooms thing"},
    "plainly": {"plain_plan": "net asked", "deep_plan": "net asked"},
    "stairs": {"least_steps": "net asked rooms", "stair": "net asked"},
    "staircheck": {"shows_steps": "net asked rooms thing"},
    "unlike": {"fault_there": "net wides sizes layout move", "moved_there": "net wides sizes layout move",
               "least_there": "net wides sizes asked", "shows_there": "net wides sizes asked thing"},
    "shelf": {"far_fault": "net rooms place move", "far_moved": "net rooms place move", "far_cost": "moves costs",
              "least_far": "net asked rooms costs"},
    "shelfcheck": {"shows_far": "net asked rooms costs thing"},
    "squares": {"row_net": "n back", "square_net": "n m", "step_net": "n", "row_rooms": "n back", "square_rooms": "n m",
                "step_rooms": "n", "row_plan": "n back", "square_plan": "n m", "step_plan": "n"},
    "behind": {"put_behind": "one other ins", "number_behind": "one other ins work", "plan_behind": "one other ins plan",
               "rooms_behind": "one other ins plan"},
    "sheetrows": {"read_sheet": "text"},
    "desk": {"run": "text"},
    "errors": {"Barred": "move word", "BadRow": "row"},
}
METHODS = {"do_work": "work", "clear_work": "work", "take_back": "", "stand_now": "", "moves_now": "", "steps_now": "",
           "most_now": "", "free_now": "", "twin_yard": ""}


class TestInterface(unittest.TestCase):
    def test_each_name_is_there_with_its_arguments(self):
        for file, names in FILES.items():
            module = importlib.import_module("fewrooms." + file)
            for name, arguments in names.items():
                told = inspect.signature(getattr(module, name)).parameters
                self.assertEqual(" ".join(told), arguments, name)

    def test_the_yard_has_its_methods(self):
        for name, arguments in METHODS.items():
            self.assertEqual(" ".join(inspect.signature(getattr(Yard(ONE, 1), name)).parameters), arguments, name)

    def test_there_is_one_package_with_all_its_files(self):
        found = {path.stem for path in pathlib.Path(fewrooms.__file__).parent.glob("*.py")}
        self.assertLessEqual(set(FILES), found)


class TestPlans(unittest.TestCase):
    def check(self, net, rooms, plan, asked):
        """Let by move by move, and ending with the asked results, in no more rooms than told."""
        stands = played(net, rooms, plan)
        self.assertEqual(stands, stands_behind(plan))
        self.assertLessEqual(max(map(len, stands)), rooms)
        self.assertLessEqual(set(asked), set(stands[-1]))
        self.assertIs(does(net, rooms, plan, asked), True)
        self.assertLessEqual(most_of(net, plan), rooms)

    def check_made_short(self, net, rooms, plan, asked):
        tidy, short = tidied(net, plan, asked), shortened(net, rooms, plan, asked)
        for told in (tidy, short):
            self.check(net, rooms, told, asked)
            self.assertEqual(played(net, rooms, told)[-1], asked)
        self.check(net, most_of(net, plan), tidy, asked)
        self.assertLessEqual(steps_of(tidy), steps_of(plan))
        self.assertLessEqual(steps_of(short), steps_of(tidy))
        return [tidy, short]

    def plans(self, net, asked):
        """All plans that are told for the asked works, each with the rooms told for it."""
        for plan in (plain_plan(net, asked), deep_plan(net, asked)):
            yield most_of(net, plan), plan
        work = asked[0]
        if len(asked) == 1:
            if is_tree(net, work):
                yield tree_rooms(net, work), tree_plan(net, work)
            try:
                low, high, plan = bracket(net, work)
            except TooMany:
                return
            yield high, plan

    def test_small_nets(self):
        for net, asked in asks(SMALL, 213):
            few, plan = fewest(net, asked)
            told = [(few, plan)] + list(self.plans(net, asked))
            for rooms in range(1, len(net) + 2):
                least = least_steps(net, asked, rooms)
                self.assertEqual(least[0], "plan" if rooms >= few else "none")
                if rooms >= few:
                    told.append((rooms, least[1]))
            for rooms, plan in list(told):
                told += [(rooms, short) for short in self.check_made_short(net, rooms, plan, asked)]
            for rooms, plan in told:
                self.check(net, rooms, plan, asked)
                self.assertLessEqual(few, most_of(net, plan))
                self.assertLessEqual(few, rooms)
            if len(asked) == 1:
                self.assertLessEqual(cut_bound(net, asked[0]), few)
                self.assertEqual(bracket(net, asked[0])[0], cut_bound(net, asked[0]))
                if is_tree(net, asked[0]):
                    self.assertEqual(tree_rooms(net, asked[0]), few)

    def test_each_step_of_the_stair_is_least(self):
        for net, asked in asks(SMALL, 214, 1):
            told = stair(net, asked)
            self.assertEqual(told[0][0], fewest(net, asked)[0])
            self.assertEqual([rooms for rooms, steps in told], list(range(told[0][0], told[0][0] + len(told))))
            for rooms, steps in told:
                self.assertEqual(least_steps(net, asked, rooms)[2], steps)
            self.assertEqual(told[-1][1], len(all_needed(net, asked)))

    def test_great_nets(self):
        for net, asked in asks(GREAT, 215, 1):
            for rooms, plan in self.plans(net, asked):
                self.check(net, rooms, plan, asked)
                if len(plan) <= 300:
                    self.check_made_short(net, rooms, plan, asked)

    def test_rows_squares_and_steps(self):
        told = [(row_net(n, back), row_rooms(n, back), row_plan(n, back)) for n in (1, 2, 9, 60) for back in (1, 3, 9, 70)]
        told += [(square_net(n, m), square_rooms(n, m), square_plan(n, m)) for n in (1, 2, 5, 9) for m in (1, 2, 7)]
        told += [(step_net(n), step_rooms(n), step_plan(n)) for n in (1, 2, 3, 4, 9, 15)]
        for net, rooms, plan in told:
            asked = (len(net) - 1,)
            self.check(net, rooms, plan, asked)
            if len(plan) <= 300:
                self.check_made_short(net, rooms, plan, asked)
            if len(net) <= 10:
                self.assertEqual(fewest(net, asked)[0], rooms)
                self.assertLessEqual(cut_bound(net, asked[0]), rooms)

    def test_trees(self):
        for net in chance_trees(216, 40, 10):
            work = len(net) - 1
            few, plan = fewest(net, (work,))
            self.assertEqual(tree_rooms(net, work), few)
            self.assertLessEqual(cut_bound(net, work), few)
            self.assertEqual(wide_rooms(net, (1,) * len(net), work), few)

    def test_plans_put_behind_others(self):
        dice = random.Random(217)
        for _ in range(150):
            one, other = chance_net(dice, dice.randint(1, 8)), chance_net(dice, dice.randint(1, 8))
            free = [work for work in range(len(other)) if not other[work]]
            many = dice.randint(0, min(len(free), len(one)))
            ins = tuple(zip(sorted(dice.sample(free, many)), dice.sample(range(len(one)), many)))
            plan = chance_plan(dice, other, dice.randint(1, len(other)), dice.randint(1, 30))
            for told in (plan, plain_plan(other, (len(other) - 1,))):
                results = stands_behind(told)[-1]
                asked = tuple(sorted(number_behind(one, other, ins, work) for work in results))
                rooms = rooms_behind(one, other, ins, told)
                self.check(put_behind(one, other, ins), rooms, plan_behind(one, other, ins, told), asked)

    def test_a_barred_move_changes_nothing(self):
        dice = random.Random(218)
        for net in SMALL:
            rooms = dice.randint(1, len(net))
            yard = Yard(net, rooms)
            for word, work in chance_plan(dice, net, rooms, 15):
                stand, moves = yard.stand_now(), yard.moves_now()
                for barred in [(kind, one) for kind in ("do", "clear") for one in range(len(net))]:
                    if barred in moves_of(net, rooms, stand):
                        continue
                    for ask, number in ((lambda: moved(net, rooms, stand, barred), 0), (
                            lambda: (yard.do_work if barred[0] == "do" else yard.clear_work)(barred[1]), len(moves))):
                        with self.assertRaises(Barred) as caught:
                            ask()
                        self.assertEqual((caught.exception.move, caught.exception.word),
                                         (number, fault_of(net, rooms, stand, barred)))
                    self.assertEqual((yard.stand_now(), yard.moves_now()), (stand, moves))
                (yard.do_work if word == "do" else yard.clear_work)(work)


class TestPapers(unittest.TestCase):
    """Each paper that is told is taken by its checker."""

    def test_papers_of_small_nets(self):
        for net, asked in asks(SMALL, 219, 1):
            few = fewest(net, asked)[0]
            for rooms in {1, max(1, few - 1), few, few + 1}:
                self.assertIs(shows_steps(net, asked, rooms, least_steps(net, asked, rooms)), True)
                paper = never_paper(net, asked, rooms)
                self.assertEqual(paper is None, rooms >= few)
                if paper is not None:
                    self.assertIs(shows_never(net, asked, rooms, paper), True)
            work = asked[0]
            self.assertIs(shows_cut(net, work, cut_bound(net, work), cut_paper(net, work)), True)

    def test_papers_of_nets_of_at_most_six_works(self):
        dice = random.Random(220)
        for net, asked in asks(chance_nets(221, 25, 5), 222, 1):
            rooms = dice.randint(1, 4)
            costs = tuple(dice.randint(0, 9) for _ in range(3))
            self.assertIs(shows_far(net, asked, rooms, costs, least_far(net, asked, rooms, costs)), True)
            wides, sizes = tuple(dice.randint(1, 3) for _ in net), tuple(dice.randint(1, 3) for _ in range(rooms))
            self.assertIs(shows_there(net, wides, sizes, asked, least_there(net, wides, sizes, asked)), True)

    def test_with_a_shelf_no_more_steps_are_wanted(self):
        for net, asked in asks(chance_nets(223, 20, 5), 224, 1):
            for rooms in (1, 2, 3):
                steps, cost = least_steps(net, asked, rooms), least_far(net, asked, rooms, (1, 99, 99))
                if steps[0] == "plan":
                    self.assertLessEqual(cost[2], steps[2])

    def test_wide_results(self):
        dice = random.Random(225)
        for _ in range(60):
            net = chance_tree(dice, dice.randint(1, 30))
            wides, work = tuple(dice.randint(1, 99) for _ in net), len(net) - 1
            rooms, order = stretched(net, wides, work)
            self.assertEqual(max(taken_by(net, wides, work, order)), rooms)
            few = wide_rooms(net, wides, work)
            self.assertEqual(max(taken_by(net, wides, work, wide_order(net, wides, work))), few)
            self.assertLessEqual(few, rooms)


class TestTold(unittest.TestCase):
    def test_no_two_told_lists_are_one(self):
        plan = least_steps(TWICE, (6,), 3)[1]
        tree, wides = full_tree(2), (3, 1, 4, 1, 5, 9, 2)
        asks_of = (
            lambda: fewest(TWICE, (6,)), lambda: never_paper(TWICE, (6,), 2), lambda: least_steps(TWICE, (6,), 3),
            lambda: stair(TWICE, (6,)), lambda: tidied(TWICE, plan, (6,)), lambda: shortened(TWICE, 4, plan, (6,)),
            lambda: cut_paper(tree, 6), lambda: bracket(tree, 6), lambda: tree_plan(tree, 6),
            lambda: stretched(tree, wides, 6), lambda: wide_order(tree, wides, 6), lambda: taken_by(tree, wides, 6, list(range(7))),
            lambda: least_far(MIXED, (5,), 3, (2, 1, 1)), lambda: least_far(MIXED, (5,), 1, (2, 1, 1)),
            lambda: least_there(MIXED, (1,) * 6, (1,) * 4, (5,)), lambda: least_there(MIXED, (1,) * 6, (1, 1), (5,)),
            lambda: row_plan(5, 2), lambda: square_plan(3, 3), lambda: step_plan(3), lambda: played(TWICE, 3, plan),
            lambda: plan_behind(tree, tree, ((0, 6),), tree_plan(tree, 6)),
        )
        for ask in asks_of:
            one, other = ask(), ask()
            self.assertEqual(one, other)
            found = lists_in(one) + lists_in(other)
            self.assertGreaterEqual(len(found), 2)
            self.assertEqual(len({id(part) for part in found}), len(found))
            kept = repr(one)
            spoil(one)
            self.assertEqual((repr(other), repr(ask())), (kept, kept))
        self.assertEqual(plan, least_steps(TWICE, (6,), 3)[1])


if __name__ == "__main__":
    unittest.main()
