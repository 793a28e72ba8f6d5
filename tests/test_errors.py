"""The errors: how they stand under one another, and their value at."""
import unittest

from grassnake.errors import BadName, BadRun, BadText, SnakeError

PLACES = (0, 7, 200, None, (), (0,), (3, 1, 0))


class ErrorsStand(unittest.TestCase):
    def test_snake_error_is_straight_under_value_error(self):
        self.assertEqual(SnakeError.__bases__, (ValueError,))

    def test_each_other_is_straight_under_snake_error(self):
        for error in (BadText, BadName, BadRun):
            self.assertEqual(error.__bases__, (SnakeError,))

    def test_they_are_three_of_their_own_names(self):
        names = [error.__name__ for error in (SnakeError, BadText, BadName, BadRun)]
        self.assertEqual(names, ["SnakeError", "BadText", "BadName", "BadRun"])

    def test_none_is_taken_as_another(self):
        made = ((BadText, BadText(0)), (BadName, BadName((0,))), (BadRun, BadRun()))
        for error, one in made:
            for other, _ in made:
                self.assertEqual(isinstance(one, other), other is error)


class ErrorsAt(unittest.TestCase):
    def test_at_is_what_they_are_made_with(self):
        for error in (BadText, BadName):
            for at in PLACES:
                self.assertIs(error(at).at, at)

    def test_each_has_its_own_at(self):
        first, second = BadText(1), BadText(2)
        self.assertEqual((first.at, second.at), (1, 2))

    def test_they_are_made_with_just_one_thing(self):
        for error in (BadText, BadName):
            self.assertRaises(TypeError, error)
            self.assertRaises(TypeError, error, 1, 2)

    def test_they_are_raised_and_taken(self):
        for error in (BadText, BadName):
            for taken in (error, SnakeError, ValueError):
                with self.assertRaises(taken) as caught:
                    raise error((1, 2))
                self.assertEqual(caught.exception.at, (1, 2))
        for taken in (BadRun, SnakeError, ValueError):
            with self.assertRaises(taken):
                raise BadRun("most")

    def test_their_words_can_be_shown(self):
        for one in (BadText(None), BadText(3), BadName(()), BadName((1, 0)), BadRun(), BadRun("way")):
            self.assertIsInstance(str(one), str)


if __name__ == "__main__":
    unittest.main()
