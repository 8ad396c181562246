import unittest

from fewrooms import errors
from fewrooms.errors import BadRow, Barred, NoMove, NoTree, RoomError, TooMany


class TestErrors(unittest.TestCase):
    def test_room_error_stands_under_value_error(self):
        self.assertEqual(RoomError.__bases__, (ValueError,))

    def test_each_refusal_stands_straight_under_room_error(self):
        for refusal in (Barred, NoMove, NoTree, TooMany, BadRow):
            self.assertEqual(refusal.__bases__, (RoomError,), refusal)

    def test_there_is_no_other_class(self):
        classes = {name for name, thing in vars(errors).items() if isinstance(thing, type)}
        self.assertEqual(classes, {"RoomError", "Barred", "NoMove", "NoTree", "TooMany", "BadRow"})

    def test_barred_has_its_move_and_its_word(self):
        barred = Barred(7, "full")
        self.assertEqual((barred.move, barred.word), (7, "full"))

    def test_bad_row_has_its_row(self):
        self.assertEqual(BadRow(12).row, 12)

    def test_fields_are_each_objects_own(self):
        one, other = Barred(0, "there"), Barred(3, "empty")
        self.assertEqual((one.move, one.word, other.move, other.word), (0, "there", 3, "empty"))
        first, second = BadRow(0), BadRow(5)
        self.assertEqual((first.row, second.row), (0, 5))

    def test_the_others_are_made_with_words(self):
        for refusal in (NoMove, NoTree, TooMany):
            with self.assertRaises(RoomError) as caught:
                raise refusal("some words")
            self.assertIs(type(caught.exception), refusal)

    def test_no_refusal_is_taken_for_another(self):
        made = (Barred(0, "full"), NoMove("none"), NoTree("none"), TooMany("many"), BadRow(0))
        for one in made:
            self.assertIsInstance(one, ValueError)
            for other in made:
                self.assertEqual(isinstance(one, type(other)), one is other)


if __name__ == "__main__":
    unittest.main()
