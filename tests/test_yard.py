import random
import unittest

from fewrooms.errors import Barred, NoMove, RoomError
from fewrooms.yard import Yard
from samples import MIXED, NAMED, ONE, all_ahead, chance_nets, chance_plan, first_fault, row, stands_behind

NETS = [net for net in NAMED if len(net) < 50] + chance_nets(111, 40, 9)


def make(yard, moves):
    for word, work in moves:
        if word == "do":
            yard.do_work(work)
        else:
            yard.clear_work(work)
    return yard


class Kept(unittest.TestCase):
    def check(self, yard, rooms, moves):
        """All that a yard tells is what is due behind these moves."""
        stands = stands_behind(moves)
        for _ in range(2):
            self.assertEqual(yard.stand_now(), stands[-1])
            self.assertIs(type(yard.stand_now()), tuple)
            self.assertEqual(yard.moves_now(), moves)
            self.assertIs(type(yard.moves_now()), list)
            self.assertEqual(yard.steps_now(), len([move for move in moves if move[0] == "do"]))
            self.assertEqual(yard.most_now(), max(len(stand) for stand in stands))
            self.assertEqual(yard.free_now(), rooms - len(stands[-1]))

    def check_barred(self, yard, word, work, due):
        with self.assertRaises(RoomError) as caught:
            make(yard, [(word, work)])
        self.assertIs(type(caught.exception), Barred)
        self.assertEqual((caught.exception.move, caught.exception.word), due)

    def check_no_move(self, yard):
        with self.assertRaises(RoomError) as caught:
            yard.take_back()
        self.assertIs(type(caught.exception), NoMove)


class TestMoves(Kept):
    def test_a_new_yard(self):
        self.check(Yard(ONE, 1), 1, [])
        self.check(Yard(MIXED, 400), 400, [])
        yard = Yard(MIXED, 3)
        self.assertEqual((yard.stand_now(), yard.moves_now(), yard.steps_now(), yard.most_now(), yard.free_now()),
                         ((), [], 0, 0, 3))

    def test_moves_that_are_let_by(self):
        yard = Yard(MIXED, 3)
        self.assertIsNone(yard.do_work(0))
        self.assertIsNone(yard.do_work(2))
        self.assertIsNone(yard.do_work(1))
        self.assertEqual(yard.stand_now(), (0, 1, 2))
        self.assertEqual(yard.free_now(), 0)
        self.assertIsNone(yard.clear_work(0))
        self.assertIsNone(yard.do_work(3))
        self.check(yard, 3, [("do", 0), ("do", 2), ("do", 1), ("clear", 0), ("do", 3)])
        self.assertIsNone(yard.take_back())

    def test_the_most_is_kept_as_results_are_cleared(self):
        yard = make(Yard(MIXED, 5), [("do", 0), ("do", 1), ("do", 2), ("clear", 0), ("clear", 1), ("clear", 2)])
        self.assertEqual((yard.stand_now(), yard.most_now(), yard.steps_now(), yard.free_now()), ((), 3, 3, 5))

    def test_barred_moves(self):
        yard = Yard(MIXED, 2)
        self.check_barred(yard, "do", 1, (0, "needs"))
        self.check_barred(yard, "clear", 0, (0, "empty"))
        make(yard, [("do", 0)])
        self.check_barred(yard, "do", 0, (1, "there"))
        self.check_barred(yard, "do", 3, (1, "needs"))
        make(yard, [("do", 1)])
        self.check_barred(yard, "do", 2, (2, "full"))
        self.check(yard, 2, [("do", 0), ("do", 1)])

    def test_the_word_that_is_due_first(self):
        yard = make(Yard(MIXED, 2), [("do", 0), ("do", 1), ("clear", 0)])
        # There, with needs that are not, and then full, too.
        self.check_barred(yard, "do", 1, (3, "there"))
        make(yard, [("do", 0)])
        self.check_barred(yard, "do", 1, (4, "there"))
        self.check_barred(yard, "do", 3, (4, "needs"))
        self.check_barred(yard, "do", 2, (4, "full"))

    def test_moves_that_were_taken_back_do_not_count(self):
        yard = make(Yard(MIXED, 2), [("do", 0), ("do", 1), ("clear", 1)])
        yard.take_back()
        yard.take_back()
        self.check_barred(yard, "do", 0, (1, "there"))
        yard.take_back()
        self.check_barred(yard, "do", 1, (0, "needs"))
        self.check_barred(yard, "clear", 1, (0, "empty"))

    def test_by_words(self):
        dice = random.Random(112)
        for net in NETS:
            rooms = dice.randint(1, len(net) + 1)
            yard, moves = Yard(net, rooms), []
            for _ in range(60):
                if dice.random() < 0.25 and moves:
                    self.assertIsNone(yard.take_back())
                    moves.pop()
                else:
                    move = (dice.choice(("do", "do", "clear")), dice.randrange(len(net)))
                    fault = first_fault(net, rooms, moves + [move])
                    if fault is None:
                        make(yard, [move])
                        moves.append(move)
                    else:
                        self.check_barred(yard, *move, fault)
                self.check(yard, rooms, moves)


class TestTakeBack(Kept):
    def test_down_to_none(self):
        dice = random.Random(113)
        for net in NETS:
            moves = chance_plan(dice, net, len(net), 20)
            yard = make(Yard(net, len(net)), moves)
            while moves:
                self.check(yard, len(net), moves)
                self.assertIsNone(yard.take_back())
                moves.pop()
            self.check(yard, len(net), [])
            self.check_no_move(yard)
            self.check(yard, len(net), [])

    def test_a_new_yard(self):
        yard = Yard(MIXED, 3)
        self.check_no_move(yard)
        self.check_no_move(yard)
        make(yard, [("do", 0)])
        self.check(yard, 3, [("do", 0)])

    def test_the_most_as_ahead_of_the_move(self):
        yard = make(Yard(((),) * 4, 4), [("do", 0), ("do", 1), ("clear", 0), ("do", 2), ("do", 3)])
        told = []
        for _ in range(5):
            told.append(yard.most_now())
            yard.take_back()
        self.assertEqual(told, [3, 2, 2, 2, 1])
        self.assertEqual(yard.most_now(), 0)

    def test_a_clear_is_taken_back(self):
        yard = make(Yard(MIXED, 2), [("do", 0), ("do", 2), ("clear", 0)])
        yard.take_back()
        self.check_barred(yard, "do", 0, (2, "there"))
        yard.clear_work(2)
        self.check(yard, 2, [("do", 0), ("do", 2), ("clear", 2)])

    def test_a_refusal_is_no_move(self):
        yard = make(Yard(MIXED, 1), [("do", 0)])
        self.check_barred(yard, "do", 1, (1, "full"))
        yard.take_back()
        self.check(yard, 1, [])

    def test_a_long_row_of_moves(self):
        moves = [("do", 0)]
        for work in range(1, 400):
            moves += [("do", work), ("clear", work - 1)]
        yard = make(Yard(row(400), 2), moves)
        self.check(yard, 2, moves)
        for _ in range(799):
            yard.take_back()
        self.check(yard, 2, [])
        self.check_no_move(yard)


class TestOwn(Kept):
    def test_told_lists_are_the_askers_own(self):
        moves = [("do", 0), ("do", 1)]
        yard = make(Yard(MIXED, 3), moves)
        one, other = yard.moves_now(), yard.moves_now()
        self.assertIsNot(one, other)
        one.clear()
        self.assertEqual(other, moves)
        other.append(("do", 2))
        self.check(yard, 3, moves)
        kept = yard.moves_now()
        yard.do_work(2)
        yard.take_back()
        yard.take_back()
        self.assertEqual(kept, moves)
        self.check(yard, 3, moves[:1])

    def test_two_yards_of_one_net_by_turns(self):
        net = all_ahead(5)
        one, other = Yard(net, 3), Yard(net, 5)
        make(one, [("do", 0), ("do", 1)])
        self.check(other, 5, [])
        make(other, [("do", 0)])
        self.check_barred(one, "do", 0, (2, "there"))
        self.check_barred(other, "do", 2, (1, "needs"))
        one.take_back()
        make(other, [("do", 1), ("do", 2), ("do", 3)])
        self.check(one, 3, [("do", 0)])
        self.check(other, 5, [("do", work) for work in range(4)])
        one.take_back()
        self.check_no_move(one)
        self.check(other, 5, [("do", work) for work in range(4)])

    def test_a_twin(self):
        moves = [("do", 0), ("do", 2), ("clear", 0), ("do", 4)]
        yard = make(Yard(MIXED, 3), moves)
        twin = yard.twin_yard()
        self.assertIsInstance(twin, Yard)
        self.assertIsNot(twin, yard)
        self.check(twin, 3, moves)
        yard.do_work(0)
        self.check(twin, 3, moves)
        twin.take_back()
        twin.take_back()
        twin.take_back()
        self.check(twin, 3, moves[:1])
        self.check(yard, 3, moves + [("do", 0)])
        make(twin, [("do", 1), ("do", 2)])
        self.check(twin, 3, [("do", 0), ("do", 1), ("do", 2)])
        self.check_barred(twin, "do", 3, (3, "full"))
        for _ in range(5):
            yard.take_back()
        self.check_no_move(yard)
        self.check(twin, 3, [("do", 0), ("do", 1), ("do", 2)])

    def test_a_twin_of_a_new_yard_and_a_twin_of_a_twin(self):
        yard = Yard(MIXED, 2)
        twin = yard.twin_yard()
        self.check_no_move(twin)
        twin.do_work(0)
        third = twin.twin_yard()
        third.do_work(1)
        self.check(yard, 2, [])
        self.check(twin, 2, [("do", 0)])
        self.check(third, 2, [("do", 0), ("do", 1)])
        third.take_back()
        third.take_back()
        self.check(third, 2, [])
        self.check(twin, 2, [("do", 0)])

    def test_twins_by_turns(self):
        dice = random.Random(114)
        for net in NETS:
            rooms = len(net)
            first = chance_plan(dice, net, rooms, 8)
            yards, told = [make(Yard(net, rooms), first)], [list(first)]
            for _ in range(30):
                place = dice.randrange(len(yards))
                yard, moves = yards[place], told[place]
                if len(yards) < 3 and dice.random() < 0.2:
                    yards.append(yard.twin_yard())
                    told.append(list(moves))
                elif moves and dice.random() < 0.4:
                    yard.take_back()
                    moves.pop()
                else:
                    move = (dice.choice(("do", "clear")), dice.randrange(len(net)))
                    if first_fault(net, rooms, moves + [move]) is None:
                        make(yard, [move])
                        moves.append(move)
                for other, due in zip(yards, told):
                    self.check(other, rooms, due)

    def test_the_net_stays(self):
        net = ((), (0,), (0, 1))
        make(Yard(net, 3), [("do", 0), ("do", 1), ("do", 2), ("clear", 0)]).take_back()
        self.assertEqual(net, ((), (0,), (0, 1)))


if __name__ == "__main__":
    unittest.main()
