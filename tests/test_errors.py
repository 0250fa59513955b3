import unittest

from onechoice.errors import NoAsker, NoLetter, NoVoter, RoomError

REFUSALS = (NoAsker, NoVoter, NoLetter)


class Errors(unittest.TestCase):
    def test_room_error_is_a_value_error(self):
        self.assertTrue(issubclass(RoomError, ValueError))

    def test_names(self):
        names = [error.__name__ for error in (RoomError,) + REFUSALS]
        self.assertEqual(names, ["RoomError", "NoAsker", "NoVoter", "NoLetter"])

    def test_each_stands_below_room_error(self):
        for refusal in REFUSALS:
            self.assertTrue(issubclass(refusal, RoomError))
            self.assertIsNot(refusal, RoomError)

    def test_none_stands_below_another(self):
        for one in REFUSALS:
            for other in REFUSALS:
                self.assertEqual(issubclass(one, other), one is other)

    def test_each_is_raised_and_taken_with_and_without_words(self):
        for refusal in REFUSALS:
            for made in (refusal(), refusal("free words")):
                with self.assertRaises(RoomError) as taken:
                    raise made
                self.assertIs(type(taken.exception), refusal)


if __name__ == "__main__":
    unittest.main()
