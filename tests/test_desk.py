import random
import unittest

from fewrooms.desk import run
from fewrooms.errors import BadRow, RoomError
from samples import (MIXED, chance_asked, chance_net, fewest_by_words, least_by_words, moves_by_words, row,
                     stands_behind)

LETTERS = "qwertyuiopasdfghjklzxcvbnm"
# The names fall by the alphabet, so that they rise by the works' numbers alone.
SQUARE = ["work d", "work c d", "work b d", "work a b c"]
TREE = ["work z", "work y", "work x y z", "work w", "work v w x"]


def name_of(work):
    return LETTERS[work % 26] * (1 + work // 26)


def work_rows(net):
    return [" ".join(["work", name_of(work)] + [name_of(need) for need in needs]) for work, needs in enumerate(net)]


def ask(rooms, works, *deeds):
    return run("\n".join([f"rooms {rooms}", *works, *deeds]))


class TestDeeds(unittest.TestCase):
    def test_done(self):
        self.assertEqual(ask(3, SQUARE, "do d", "do b", "clear d", "back", "stand"), ["done"] * 4 + ["d b"])

    def test_barred_with_each_word(self):
        self.assertEqual(ask(2, SQUARE, "do a", "clear a", "do d", "do d", "do c", "do b"),
                         ["barred needs", "barred empty", "done", "barred there", "done", "barred full"])

    def test_back(self):
        self.assertEqual(ask(2, SQUARE, "back", "do d", "back", "back", "stand"), ["none", "done", "done", "none", "-"])

    def test_a_barred_move_changes_nothing(self):
        self.assertEqual(ask(2, SQUARE, "do d", "do a", "count", "back", "count", "back"),
                         ["done", "barred needs", "1 1 1", "done", "0 0 2", "none"])

    def test_back_of_a_clear(self):
        self.assertEqual(ask(2, SQUARE, "do d", "clear d", "stand", "back", "stand"),
                         ["done", "done", "-", "done", "d"])

    def test_more_rooms_than_works(self):
        self.assertEqual(ask(99, ["work a"], "do a", "count", "moves"), ["done", "1 1 98", "clear a"])


class TestNow(unittest.TestCase):
    def test_stand(self):
        self.assertEqual(ask(4, SQUARE, "stand", "do d", "do b", "do c", "do a", "stand", "clear c", "stand"),
                         ["-", "done", "done", "done", "done", "d c b a", "done", "d b a"])

    def test_moves(self):
        self.assertEqual(ask(3, SQUARE, "moves", "do d", "moves", "do b", "moves", "do c", "moves"), [
            "do d", "done", "do c ; do b ; clear d", "done", "do c ; clear d ; clear b", "done",
            "clear d ; clear c ; clear b"])

    def test_count(self):
        self.assertEqual(ask(3, SQUARE, "count", "do d", "do b", "count", "clear d", "clear b", "do d", "count", "back",
                             "back", "back", "back", "count"),
                         ["0 0 3", "done", "done", "2 2 1", "done", "done", "done", "3 2 2"] + ["done"] * 4 + ["1 1 2"])


class TestAsks(unittest.TestCase):
    def test_tree(self):
        self.assertEqual(ask(1, TREE, "tree v", "tree x", "tree w"), ["3 : z y x w v", "3 : z y x", "1 : w"])
        self.assertEqual(ask(1, SQUARE, "tree a", "tree c"), ["no tree", "2 : d c"])

    def test_tree_in_its_own_order(self):
        works = ["work a", "work b", "work c", "work d a", "work e b c", "work f d e"]
        self.assertEqual(ask(9, works, "tree f", "tree d"), ["3 : b c e a d f", "2 : a d"])

    def test_cut(self):
        self.assertEqual(ask(1, SQUARE, "cut a", "cut d", "cut c"), ["2 3", "1 1", "2 2"])
        self.assertEqual(ask(1, TREE, "cut v"), ["3 3"])

    def test_cut_of_too_many_paths(self):
        net = tuple(tuple(range(max(0, k - 3), k)) for k in range(40))
        self.assertEqual(ask(1, work_rows(net), "cut " + name_of(39), "cut " + name_of(2)), ["too many", "2 3"])

    def test_plain(self):
        self.assertEqual(ask(1, SQUARE, "plain a", "plain d a", "plain b", "plain a b c d"), ["3 4", "4 4", "2 2", "4 4"])
        net = row(40)
        self.assertEqual(ask(1, work_rows(net), "plain " + name_of(39)), ["2 40"])

    def test_few(self):
        self.assertEqual(ask(1, SQUARE, "few a", "few d", "few a d", "few c b a", "few a b c d"),
                         ["3", "1", "3", "3", "4"])

    def test_steps(self):
        self.assertEqual(ask(1, SQUARE, "steps 1 a", "steps 2 a", "steps 3 a", "steps 99 a", "steps 1 d", "steps 3 a d",
                             "steps 4 d a", "steps 1 a d"),
                         ["never", "never", "4", "4", "1", "5", "4", "never"])

    def test_stair(self):
        self.assertEqual(ask(1, SQUARE, "stair a", "stair d", "stair a d"), ["3 4", "1 1", "3 5 ; 4 4"])

    def test_too_great(self):
        net = row(11)
        deeds = ["few q", "steps 1 q", "steps 99 q w", "stair q", "plain q", "cut q", "tree q", "do q", "stand"]
        self.assertEqual(ask(1, work_rows(net), *deeds),
                         ["too great"] * 4 + ["1 1", "1 1", "1 : q", "done", "q"])
        last = name_of(9)
        self.assertEqual(ask(1, work_rows(row(10)), "few " + last, "steps 2 " + last, "steps 1 " + last, "stair " + last),
                         ["2", "10", "never", "2 10"])

    def test_asks_do_not_change_the_yard(self):
        asks = ["tree c", "cut a", "plain a", "few a", "steps 3 a", "stair a", "moves", "count"]
        self.assertEqual(ask(3, SQUARE, "do d", *asks, "stand", "back", "back")[-3:], ["d", "done", "none"])


class TestWhole(unittest.TestCase):
    def test_by_words(self):
        dice = random.Random(121)
        for _ in range(30):
            net = chance_net(dice, dice.randint(1, 7))
            rooms = dice.randint(1, len(net))
            deeds, due, moves = [], [], []
            for _ in range(25):
                stand = stands_behind(moves)[-1]
                word = dice.choice(("do", "do", "clear", "back", "stand", "moves", "count", "few", "steps"))
                work, asked = dice.randrange(len(net)), chance_asked(dice, net)
                names = " ".join(name_of(one) for one in dice.sample(asked, len(asked)))
                behind = dict(self.let_by(net, rooms, stand))
                if word in ("do", "clear"):
                    deeds.append(f"{word} {name_of(work)}")
                    fit = (word, work) in behind
                    due.append("done" if fit else "barred")
                    if fit:
                        moves.append((word, work))
                elif word == "back":
                    deeds.append(word)
                    due.append("done" if moves else "none")
                    moves = moves[:-1]
                elif word == "stand":
                    deeds.append(word)
                    due.append(" ".join(name_of(one) for one in stand) or "-")
                elif word == "moves":
                    deeds.append(word)
                    dos = sorted(one for kind, one in behind if kind == "do")
                    due.append(" ; ".join([f"do {name_of(one)}" for one in dos] + [f"clear {name_of(one)}" for one in stand]))
                elif word == "count":
                    deeds.append(word)
                    most = max(len(one) for one in stands_behind(moves))
                    due.append(f"{len([move for move in moves if move[0] == 'do'])} {most} {rooms - len(stand)}")
                elif word == "few":
                    deeds.append(f"few {names}")
                    due.append(str(fewest_by_words(net, asked)))
                else:
                    deeds.append(f"steps {rooms} {names}")
                    least = least_by_words(net, asked, rooms)
                    due.append("never" if least is None else str(least))
            told = ask(rooms, work_rows(net), *deeds)
            self.assertEqual([answer.split(" ")[0] if answer.startswith("barred ") else answer for answer in told], due)

    def let_by(self, net, rooms, stand):
        for word, further in moves_by_words(net, rooms, stand):
            work = (set(further) ^ set(stand)).pop()
            yield (word, work), further

    def test_no_deeds(self):
        self.assertEqual(ask(3, SQUARE), [])
        self.assertEqual(run("\nrooms 1\n\nwork a\n"), [])

    def test_asked_again_the_same(self):
        text = "\n".join(["rooms 3", *SQUARE, "do d", "moves", "count", "stair a d", "few a", "cut a", "tree c", "back"])
        one, other = run(text), run(text)
        self.assertIs(type(one), list)
        self.assertTrue(all(type(answer) is str for answer in one))
        self.assertEqual(one, other)
        self.assertIsNot(one, other)
        kept = list(one)
        one.clear()
        self.assertEqual(run(text), kept)

    def test_bad_rows(self):
        for number, text in ((1, ""), (1, "rooms 3"), (0, "rooms 0\nwork a"), (2, "rooms 3\nwork a\ndo b"),
                             (4, "rooms 3\nwork a\ndo a\ndo a\nx"), (3, "rooms 1\nwork a\n\n "),
                             (100, "rooms 1\nwork a" + "\n" * 99), (3, "rooms 1\nwork a\nfew a\nfew a a")):
            with self.assertRaises(RoomError) as caught:
                run(text)
            self.assertIs(type(caught.exception), BadRow)
            self.assertEqual(caught.exception.row, number, text)

    def test_a_sheet_of_mixed_works(self):
        self.assertEqual(ask(4, work_rows(MIXED), "plain y", "few y", "tree y", "stair y"), ["4 5", "3", "no tree", "3 6 ; 4 5"])


if __name__ == "__main__":
    unittest.main()
