import copy
import unittest

from fewrooms.errors import BadRow, RoomError
from fewrooms.sheetrows import read_sheet
from samples import is_a_net, lists_in

HEAD = ["rooms 3", "work a", "work b a", "work c a b"]
FORTY = ["work " + letter + other for letter in "ab" for other in "abcdefghijklmnopqrst"]
DEEDS = ["do a", "clear b", "back", "stand", "moves", "count", "tree c", "cut b", "plain c a", "few b", "steps 7 c b",
         "stair c b a"]
TOLD = [("do", 0), ("clear", 1), ("back",), ("stand",), ("moves",), ("count",), ("tree", 2), ("cut", 1),
        ("plain", (0, 2)), ("few", (1,)), ("steps", 7, (1, 2)), ("stair", (0, 1, 2))]


def sheet(*rows):
    return "\n".join(rows)


class TestRightSheets(unittest.TestCase):
    def test_a_sheet(self):
        text = sheet(*HEAD, *DEEDS)
        told = read_sheet(text)
        self.assertEqual(told, (3, ("a", "b", "c"), ((), (0,), (0, 1)), TOLD))
        self.assertEqual([type(part) for part in told], [int, tuple, tuple, list])
        self.assertTrue(all(type(deed) is tuple for deed in told[3]))
        self.assertIs(type(told), tuple)

    def test_no_deeds(self):
        self.assertEqual(read_sheet("rooms 1\nwork a"), (1, ("a",), ((),), []))

    def test_names_stand_in_the_order_of_their_rows(self):
        told = read_sheet(sheet("rooms 99", "work z", "work y", "work x z", "work abcdefgh y x"))
        self.assertEqual(told, (99, ("z", "y", "x", "abcdefgh"), ((), (), (0,), (1, 2)), []))

    def test_needs_in_any_order(self):
        told = read_sheet(sheet("rooms 5", "work d", "work c", "work b", "work a b d c", "work e a c"))
        self.assertEqual(told[2], ((), (), (), (0, 1, 2), (1, 3)))
        self.assertTrue(is_a_net(told[2]))

    def test_asked_names_in_any_order(self):
        head = ["rooms 5", "work d", "work c", "work b", "work a"]
        told = read_sheet(sheet(*head, "plain a b c d", "few b a", "stair c a d", "steps 1 a d c b", "steps 99 b"))
        self.assertEqual(told[3], [("plain", (0, 1, 2, 3)), ("few", (2, 3)), ("stair", (0, 1, 3)),
                                   ("steps", 1, (0, 1, 2, 3)), ("steps", 99, (2,))])

    def test_deeds_in_any_order(self):
        for turn in range(len(DEEDS)):
            told = read_sheet(sheet(*HEAD, *DEEDS[turn:], *DEEDS[:turn]))
            self.assertEqual(told[3], TOLD[turn:] + TOLD[:turn])
        self.assertEqual(read_sheet(sheet(*HEAD, *DEEDS[::-1]))[3], TOLD[::-1])
        self.assertEqual(read_sheet(sheet(*HEAD, "do a", "do a", "back", "back"))[3],
                         [("do", 0), ("do", 0), ("back",), ("back",)])

    def test_works_that_are_called_like_the_sheets_own_words(self):
        words = ["rooms", "work", "do", "clear", "back", "stand", "moves", "count", "tree", "cut", "plain", "few",
                 "steps", "stair"]
        rows = ["work " + word for word in words]
        told = read_sheet(sheet("rooms 2", *rows, "do work", "do do", "plain rooms work", "steps 2 steps", "tree back"))
        self.assertEqual(told[1], tuple(words))
        self.assertEqual(told[3], [("do", 1), ("do", 2), ("plain", (0, 1)), ("steps", 2, (12,)), ("tree", 4)])

    def test_empty_rows_are_passed_over(self):
        told = read_sheet(sheet("", "", "rooms 3", "", "work a", "", "", "work b a", "work c a b", "", *DEEDS, "", ""))
        self.assertEqual(told, (3, ("a", "b", "c"), ((), (0,), (0, 1)), TOLD))
        self.assertEqual(read_sheet("rooms 1\nwork a\n"), read_sheet("\nrooms 1\nwork a"))

    def test_forty_works(self):
        told = read_sheet(sheet("rooms 40", *FORTY, "few aa"))
        self.assertEqual(told, (40, tuple(row[5:] for row in FORTY), ((),) * 40, [("few", (0,))]))

    def test_a_hundred_rows(self):
        told = read_sheet(sheet(*HEAD, *["stand"] * 96))
        self.assertEqual(told[3], [("stand",)] * 96)
        told = read_sheet(sheet(*[""] * 96, *HEAD))
        self.assertEqual(told, (3, ("a", "b", "c"), ((), (0,), (0, 1)), []))
        self.assertEqual(read_sheet(sheet(*HEAD) + "\n" * 96)[3], [])

    def test_a_row_of_two_hundred_signs(self):
        names = [letter * 8 for letter in "abcdefghijklmnopqrstu"]
        long_row = "work " + "z" * 6 + "".join(" " + name for name in names)
        self.assertEqual(len(long_row), 200)
        told = read_sheet(sheet("rooms 9", *["work " + name for name in names], long_row))
        self.assertEqual(told[2][-1], tuple(range(21)))
        longer = long_row.replace("zzzzzz", "zzzzzzz")
        with self.assertRaises(BadRow) as caught:
            read_sheet(sheet("rooms 9", *["work " + name for name in names], longer))
        self.assertEqual(caught.exception.row, 22)

    def test_rooms_from_1_to_99(self):
        for rooms in range(1, 100):
            self.assertEqual(read_sheet(f"rooms {rooms}\nwork a")[0], rooms)
            self.assertEqual(read_sheet(f"rooms 1\nwork a\nsteps {rooms} a")[3], [("steps", rooms, (0,))])

    def test_told_lists_are_the_askers_own(self):
        text = sheet(*HEAD, *DEEDS)
        one, other = read_sheet(text), read_sheet(text)
        self.assertEqual(len({id(part) for part in lists_in(one) + lists_in(other)}), 2)
        kept = copy.deepcopy(one)
        one[3].clear()
        self.assertEqual(other, kept)
        self.assertEqual(read_sheet(text), kept)


class TestBadRows(unittest.TestCase):
    def check(self, number, *rows):
        text = sheet(*rows)
        with self.assertRaises(RoomError) as caught:
            read_sheet(text)
        self.assertIs(type(caught.exception), BadRow, text)
        self.assertEqual(caught.exception.row, number, text)
        self.assertIs(type(caught.exception.row), int)

    def check_row(self, row, head=HEAD):
        """The row is wrong behind the head, whatever comes behind it, and empty rows are counted."""
        self.check(len(head), *head, row)
        self.check(len(head), *head, row, "stand", "what is this")
        self.check(len(head) + 3, "", *head[:1], "", *head[1:], "", row, "")

    def test_signs_out_of_bounds(self):
        for sign in ("\t", "\r", "\0", "\x7f", "\x1f", "\x0b", "\x0c", "\x85", "\xa0", "\xe9", "\u2028", "\u0660",
                     "\U0001f600"):
            for row in (sign, "stand" + sign, sign + "stand", "do " + sign, "do" + sign + "a", "plain a" + sign + " b"):
                self.check_row(row)
            self.check(0, "rooms 3" + sign, "work a")
            self.check(1, "rooms 3", "work a" + sign)
            self.check(0, "rooms " + sign, "work a")

    def test_signs_within_bounds_that_are_no_words(self):
        for sign in "!\"#$%&'()*+,-./:;<=>?@[\\]^_`{|}~0Z":
            for row in (sign, "stand" + sign, "stand " + sign, "do " + sign, "do a" + sign, "work " + sign,
                        "work d" + sign, "work d " + sign):
                self.check_row(row)

    def test_rows_that_are_too_long(self):
        self.check_row("a" * 201)
        self.check_row(" " * 201)
        self.check_row("stand" + " " * 196)
        self.check_row("work " + "d" * 196)
        self.check_row("steps " + "1" * 195)

    def test_blanks(self):
        for row in DEEDS + ["work d a b"]:
            for wrong in (" " + row, row + " ", "  " + row, row + "  "):
                self.check_row(wrong)
            if " " in row:
                self.check_row(row.replace(" ", "  ", 1))
                self.check_row("  ".join(row.rsplit(" ", 1)))
        for row in (" ", "  ", " " * 200):
            self.check_row(row)
            self.check(0, row, *HEAD)
            self.check(1, "rooms 3", row, "work a")
            self.check(2, "rooms 3", "work a", row)
        self.check(0, " rooms 3", "work a")
        self.check(0, "rooms 3 ", "work a")
        self.check(0, "rooms  3", "work a")

    def test_rooms(self):
        for word in ("0", "100", "00", "03", "007", "099", "-1", "+3", "3.0", "1e1", "x", "a", "3a", "0x3", "1_0",
                     "999", "9" * 190, "three"):
            self.check(0, "rooms " + word, "work a")
            self.check(2, "", "", "rooms " + word, "work a")
            self.check_row("steps " + word + " a")
        for row in ("rooms", "rooms 3 4", "rooms 3 a", "room 3", "Rooms 3", "rooms3", "3", "3 rooms"):
            self.check(0, row, "work a")

    def test_another_sort_where_rooms_are_due(self):
        for row in DEEDS + ["work a", "work", "x"]:
            self.check(0, row, "rooms 3", "work a")
            self.check(1, "", row, "rooms 3", "work a")

    def test_another_sort_where_the_first_work_is_due(self):
        for row in DEEDS + ["rooms 3", "rooms 4", "work", "works a", "x", "work a a", "work a b"]:
            self.check(1, "rooms 3", row, "work a")
            self.check(3, "rooms 3", "", "", row, "work a")

    def test_rooms_twice(self):
        self.check_row("rooms 3")
        self.check(1, "rooms 3", "rooms 3", "work a")
        self.check(5, *HEAD, "stand", "rooms 3")

    def test_names(self):
        for name in ("abcdefghi", "A", "aB", "a1", "1", "a_b", "a-b", "a.", "_", "A" * 8):
            self.check_row("work " + name)
            self.check_row("work d " + name)
            self.check_row("do " + name)
            self.check_row("few " + name)
        self.check_row("work")

    def test_a_name_twice(self):
        for row in ("work a", "work b", "work c a", "work a b"):
            self.check_row(row)
        self.check(2, "rooms 3", "work a", "work a")

    def test_needs(self):
        for row in ("work d e", "work d a e", "work d e a", "work d a a", "work d a b a", "work d d", "work d a d",
                    "work d b b"):
            self.check_row(row)
        self.check(1, "rooms 3", "work a a")
        self.check(1, "rooms 3", "work a b", "work b")

    def test_a_work_behind_a_deed(self):
        for row in DEEDS:
            self.check(5, *HEAD, row, "work d")
            self.check(7, *HEAD, row, "", row, "work d a")

    def test_a_work_too_many(self):
        self.check(41, "rooms 40", *FORTY, "work c")
        self.check(42, "rooms 40", *FORTY, "", "work c", "stand")
        self.check(41, "rooms 40", *FORTY, "work aa")

    def test_names_that_are_not_there(self):
        for word in ("do", "clear", "tree", "cut", "plain", "few", "stair", "steps 2"):
            for name in ("d", "aa", "x", "stand"):
                self.check_row(word + " " + name)
        for row in ("plain a d", "few d a", "stair a b c d", "steps 3 a d"):
            self.check_row(row)

    def test_too_few_and_too_many_names(self):
        head = ["rooms 9", "work a", "work b", "work c", "work d", "work e"]
        for word in ("plain", "few", "stair", "steps 3"):
            self.check_row(word, head)
            self.check_row(word + " a b c d e", head)
            self.check_row(word + " a a", head)
            self.check_row(word + " b a b", head)
            self.check_row(word + " a b c a", head)
            self.check_row(word + " a b c d a", head)
        for word in ("do", "clear", "tree", "cut"):
            self.check_row(word, head)
            self.check_row(word + " a b", head)
            self.check_row(word + " a a", head)
        for word in ("back", "stand", "moves", "count"):
            self.check_row(word + " a", head)
            self.check_row(word + " 1", head)

    def test_numbers_where_none_is_due_or_one_is_missing(self):
        for row in ("steps", "steps a", "steps a 3", "steps a b", "steps 3 3", "steps 3", "steps 3 4 a", "plain 3 a",
                    "few 3", "stair 3 a", "do 0", "tree 1", "clear 0"):
            self.check_row(row)

    def test_words_that_are_none(self):
        for row in ("x", "Do a", "DO a", "done a", "clears a", "backs", "stands", "move", "counts", "trees a", "step 3 a",
                    "stairs a", "a", "3", "-", ";", "stand;", "#", "# stand"):
            self.check_row(row)

    def test_no_rows_at_all(self):
        # Line feeds part rows: a text without one is a row, an empty one here.
        self.check(1, "")
        self.check(2, "", "")
        self.check(5, "", "", "", "", "")
        self.check(100, *[""] * 100)

    def test_rooms_alone(self):
        self.check(1, "rooms 3")
        self.check(2, "rooms 3", "")
        self.check(4, "", "rooms 3", "", "")
        self.check(100, *[""] * 99, "rooms 3")

    def test_more_than_a_hundred_rows(self):
        self.check(100, *HEAD, *["stand"] * 97)
        self.check(100, *HEAD, *["stand"] * 96, "")
        self.check(100, *HEAD, *["stand"] * 96, "what is this")
        self.check(100, *HEAD, *["stand"] * 500)
        self.check(100, *HEAD, *[""] * 97)
        self.check(100, *[""] * 101)
        self.check(100, *[""] * 100, *HEAD)
        self.check(100, "rooms 3", *[""] * 100, "work a")

    def test_a_wrong_row_ahead_of_the_hundred_and_first(self):
        self.check(99, *HEAD, *["stand"] * 95, "stands", "stand")
        self.check(0, "room 3", *["stand"] * 100)
        self.check(50, *HEAD, *["stand"] * 46, "work d", *["stand"] * 200)
        self.check(4, *HEAD, " ", *[""] * 100)

    def test_the_first_wrong_row_goes(self):
        self.check(4, *HEAD, "do d", "rooms 3", "do e")
        self.check(1, "", "rooms 0", "work a a", "x")


if __name__ == "__main__":
    unittest.main()
