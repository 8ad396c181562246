import random
import unittest

from fewrooms.errors import Barred, RoomError
from fewrooms.moves import fault_of, moved, moves_of
from samples import MIXED, NAMED, ONE, all_ahead, chance_nets, row

NETS = list(NAMED) + chance_nets(21, 40, 9)


def fault_by_words(net, rooms, stand, move):
    word, work = move
    if word == "clear":
        due = [("empty", work not in stand)]
    else:
        due = [("there", work in stand), ("needs", not set(net[work]) <= set(stand)), ("full", len(stand) == rooms)]
    return next((fault for fault, is_due in due if is_due), None)


def tries(seed):
    """Nets with rooms and a stand of them."""
    dice = random.Random(seed)
    for net in NETS:
        for _ in range(6):
            stand = tuple(sorted(dice.sample(range(len(net)), dice.randint(0, min(len(net), 30)))))
            rooms = max(1, len(stand) + dice.choice((0, 0, 1, 2, len(net))))
            yield net, rooms, stand


def some_moves(net):
    works = range(len(net)) if len(net) < 50 else (0, 1, 7, 200, 398, 399)
    return [(word, work) for word in ("do", "clear") for work in works]


class TestFaults(unittest.TestCase):
    def test_there(self):
        self.assertEqual(fault_of(MIXED, 3, (0, 1), ("do", 1)), "there")

    def test_needs(self):
        self.assertEqual(fault_of(MIXED, 3, (0, 1), ("do", 3)), "needs")
        self.assertEqual(fault_of(MIXED, 3, (), ("do", 1)), "needs")
        self.assertEqual(fault_of(MIXED, 6, (0, 1, 2, 4), ("do", 5)), "needs")

    def test_full(self):
        self.assertEqual(fault_of(MIXED, 2, (0, 1), ("do", 2)), "full")
        self.assertEqual(fault_of(((), ()), 1, (0,), ("do", 1)), "full")

    def test_empty(self):
        self.assertEqual(fault_of(MIXED, 3, (0, 1), ("clear", 2)), "empty")
        self.assertEqual(fault_of(ONE, 1, (), ("clear", 0)), "empty")

    def test_let_by(self):
        self.assertIsNone(fault_of(MIXED, 3, (0, 1), ("do", 2)))
        self.assertIsNone(fault_of(MIXED, 2, (0, 1), ("clear", 0)))
        self.assertIsNone(fault_of(ONE, 1, (), ("do", 0)))

    def test_there_goes_ahead_of_needs(self):
        self.assertEqual(fault_of(MIXED, 5, (3,), ("do", 3)), "there")

    def test_there_goes_ahead_of_full(self):
        self.assertEqual(fault_of(MIXED, 2, (0, 1), ("do", 1)), "there")

    def test_there_goes_ahead_of_both(self):
        self.assertEqual(fault_of(MIXED, 1, (3,), ("do", 3)), "there")

    def test_needs_goes_ahead_of_full(self):
        self.assertEqual(fault_of(MIXED, 2, (0, 1), ("do", 3)), "needs")
        self.assertEqual(fault_of(MIXED, 1, (4,), ("do", 1)), "needs")

    def test_more_rooms_than_works(self):
        self.assertIsNone(fault_of(MIXED, 400, (0, 1, 2, 3, 4), ("do", 5)))
        self.assertIsNone(fault_of(ONE, 7, (), ("do", 0)))
        self.assertEqual(fault_of(ONE, 7, (0,), ("do", 0)), "there")

    def test_great_nets(self):
        net = all_ahead(400)
        stand = tuple(range(399))
        self.assertIsNone(fault_of(net, 400, stand, ("do", 399)))
        self.assertEqual(fault_of(net, 399, stand, ("do", 399)), "full")
        self.assertEqual(fault_of(net, 400, stand[:-1], ("do", 399)), "needs")

    def test_by_words(self):
        for net, rooms, stand in tries(1):
            for move in some_moves(net):
                self.assertEqual(fault_of(net, rooms, stand, move), fault_by_words(net, rooms, stand, move))


class TestMoved(unittest.TestCase):
    def test_do(self):
        self.assertEqual(moved(MIXED, 4, (0, 1, 5), ("do", 2)), (0, 1, 2, 5))
        self.assertEqual(moved(MIXED, 4, (3, 5), ("do", 0)), (0, 3, 5))
        self.assertEqual(moved(MIXED, 4, (0, 2), ("do", 4)), (0, 2, 4))
        self.assertEqual(moved(ONE, 1, (), ("do", 0)), (0,))

    def test_clear(self):
        self.assertEqual(moved(MIXED, 3, (0, 1, 5), ("clear", 1)), (0, 5))
        self.assertEqual(moved(MIXED, 3, (0, 1, 5), ("clear", 0)), (1, 5))
        self.assertEqual(moved(ONE, 1, (0,), ("clear", 0)), ())

    def test_by_words(self):
        for net, rooms, stand in tries(2):
            for move in some_moves(net):
                word, work = move
                if fault_by_words(net, rooms, stand, move) is None:
                    behind = set(stand) | {work} if word == "do" else set(stand) - {work}
                    told = moved(net, rooms, stand, move)
                    self.assertIs(type(told), tuple)
                    self.assertEqual(told, tuple(sorted(behind)))

    def test_refused(self):
        for rooms, stand, move, word in (
            (3, (0, 1), ("do", 1), "there"), (3, (0, 1), ("do", 3), "needs"), (2, (0, 1), ("do", 2), "full"),
            (3, (0, 1), ("clear", 2), "empty"), (1, (3,), ("do", 3), "there"), (1, (4,), ("do", 1), "needs"),
        ):
            with self.assertRaises(RoomError) as caught:
                moved(MIXED, rooms, stand, move)
            self.assertIs(type(caught.exception), Barred)
            self.assertIsInstance(caught.exception, ValueError)
            self.assertEqual((caught.exception.move, caught.exception.word), (0, word))

    def test_refused_by_words(self):
        for net, rooms, stand in tries(3):
            for move in some_moves(net):
                word = fault_by_words(net, rooms, stand, move)
                if word is not None:
                    with self.assertRaises(Barred) as caught:
                        moved(net, rooms, stand, move)
                    self.assertEqual((caught.exception.move, caught.exception.word), (0, word))


class TestMovesOf(unittest.TestCase):
    def test_no_results(self):
        self.assertEqual(moves_of(MIXED, 3, ()), [("do", 0)])
        self.assertEqual(moves_of(((), (), (0,)), 3, ()), [("do", 0), ("do", 1)])

    def test_dos_ahead_of_clears(self):
        self.assertEqual(moves_of(MIXED, 4, (0, 2, 5)), [("do", 1), ("do", 4), ("clear", 0), ("clear", 2), ("clear", 5)])
        self.assertEqual(moves_of(MIXED, 400, (1, 3)), [("do", 0), ("clear", 1), ("clear", 3)])

    def test_all_rooms_full(self):
        self.assertEqual(moves_of(MIXED, 2, (0, 2)), [("clear", 0), ("clear", 2)])
        self.assertEqual(moves_of(ONE, 1, (0,)), [("clear", 0)])

    def test_long_rows(self):
        self.assertEqual(moves_of(row(400), 400, (5, 399)), [("do", 0), ("do", 6), ("clear", 5), ("clear", 399)])

    def test_by_words(self):
        for net, rooms, stand in tries(4):
            all_moves = [(word, work) for word in ("do", "clear") for work in range(len(net))]
            told = moves_of(net, rooms, stand)
            self.assertIs(type(told), list)
            self.assertEqual(told, [move for move in all_moves if fault_by_words(net, rooms, stand, move) is None])

    def test_the_told_list_is_the_askers_own(self):
        told = moves_of(MIXED, 4, (0, 2))
        kept = list(told)
        told.reverse()
        told.append(("do", 99))
        self.assertEqual(moves_of(MIXED, 4, (0, 2)), kept)
        self.assertIsNot(moves_of(MIXED, 4, (0, 2)), moves_of(MIXED, 4, (0, 2)))

    def test_told_moves_may_be_handed_in_again(self):
        for net, rooms, stand in tries(5):
            for move in moves_of(net, rooms, stand)[:20]:
                moves_of(net, rooms, moved(net, rooms, stand, move))


if __name__ == "__main__":
    unittest.main()
