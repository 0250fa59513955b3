import itertools
import unittest

from onechoice.counting import chosen_pairs, chosen_wish, more_than_half, voters_in
from onechoice.letters import ask, prepare, promise, vote

LARGE = 10**40


def votes_of(ballot, voters, wish):
    return tuple(vote(ballot, voter, wish) for voter in voters)


class MoreThanHalf(unittest.TestCase):
    def test_from_just_beyond_the_half(self):
        for many, least in ((1, 1), (2, 2), (3, 2), (4, 3), (5, 3), (6, 4), (7, 4), (8, 5), (9, 5)):
            self.assertEqual([some for some in range(many + 1) if more_than_half(some, many)],
                             list(range(least, many + 1)))


class VotersIn(unittest.TestCase):
    def test_none(self):
        self.assertEqual(voters_in((), 0), ())
        self.assertEqual(voters_in((prepare(4), promise(4, 1, None), ask(4, 2)), 4), ())

    def test_rising_in_whatever_order_they_voted(self):
        for letters in itertools.permutations(votes_of(4, (6, 0, 3), -2)):
            self.assertEqual(voters_in(letters, 4), (0, 3, 6))

    def test_of_this_ballot_alone(self):
        letters = votes_of(0, (1, 2), 5) + votes_of(1, (0,), 5) + (promise(0, 4, (0, 5)),)
        self.assertEqual([voters_in(letters, ballot) for ballot in (-1, 0, 1, 2)], [(), (1, 2), (0,), ()])


class Chosen(unittest.TestCase):
    def test_none(self):
        for letters in ((), (prepare(4), promise(4, 0, (2, 7)), ask(4, 7))):
            self.assertEqual(chosen_pairs(letters, 1), ())

    def test_more_than_half(self):
        for many in range(1, 8):
            for some in range(1, many + 1):
                pairs = chosen_pairs(votes_of(9, range(some), -3), many)
                self.assertEqual(pairs, ((9, -3),) if some > many - some else ())

    def test_votes_in_unlike_ballots_do_not_add_up(self):
        self.assertEqual(chosen_pairs(votes_of(1, (0,), 8) + votes_of(2, (1, 2), 8) + votes_of(3, (3,), 8), 4), ())

    def test_several_ballots_rise(self):
        letters = votes_of(LARGE, (0, 1), 8) + votes_of(10, (1, 2), 8) + votes_of(2, (0, 2), 8) + votes_of(9, (0,), 8)
        self.assertEqual(chosen_pairs(letters, 3), ((2, 8), (10, 8), (LARGE, 8)))

    def test_the_wish_of_the_pairs(self):
        self.assertIsNone(chosen_wish(()))
        for wish in (-LARGE, -1, 0, 1, LARGE):
            self.assertEqual(chosen_wish(((0, wish),)), wish)
            self.assertEqual(chosen_wish(((0, wish), (5, wish))), wish)


if __name__ == "__main__":
    unittest.main()
