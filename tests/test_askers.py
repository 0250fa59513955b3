import itertools
import unittest

from onechoice.askers import Asker, own_ballot, owner
from onechoice.letters import promise

LARGE = 10**40
WISHES = (-LARGE, -2, -1, 0, 1, 7, LARGE)


# Walked up one by one, with the owner told by [0.4] alone.
def least_ballot_walked(number, askers, least):
    ballot = max(least, 0)
    while ballot % askers != number:
        ballot += 1
    return ballot


# Asker 1 of 3, with the wish 50, in ballot 10.
def begun(many, wish=50):
    asker = Asker(1, 3, wish, many)
    asker.begin(10)
    return asker


def hear_all(asker, letters):
    return [asker.hear(letter) for letter in letters]


class Owner(unittest.TestCase):
    def test_the_rest_by_the_number_of_askers(self):
        for askers in range(1, 5):
            owners = [owner(ballot, askers) for ballot in range(20)]
            self.assertEqual(owners, (list(range(askers)) * 20)[:20])

    def test_large_ballots(self):
        self.assertEqual(owner(LARGE * 4 + 3, 4), 3)


class OwnBallot(unittest.TestCase):
    def test_the_least_of_its_own_that_is_at_least_the_number(self):
        for askers in range(1, 7):
            for number in range(askers):
                for least in tuple(range(-7, 30)) + (LARGE, LARGE + 1, LARGE + 2, LARGE + 3):
                    walked = least_ballot_walked(number, askers, least)
                    self.assertEqual(own_ballot(number, askers, least), walked)


class Begin(unittest.TestCase):
    def test_a_new_asker_has_no_ballot(self):
        asker = Asker(0, 1, 5, 1)
        self.assertIsNone(asker.ballot)
        self.assertIsNone(asker.backers(0))

    def test_tells_the_prepare(self):
        self.assertEqual(Asker(1, 3, 50, 5).begin(0), ("prepare", 1))
        self.assertEqual(Asker(1, 3, 50, 5).begin(1), ("prepare", 1))
        self.assertEqual(Asker(1, 3, 50, 5).begin(2), ("prepare", 4))

    def test_greater_than_all_that_it_had(self):
        asker = Asker(1, 3, 50, 5)
        self.assertEqual([asker.begin(least)[1] for least in (0, 0, 30, 0, 34, 35, 4)], [1, 4, 31, 34, 37, 40, 43])

    def test_greater_than_all_that_it_had_behind_a_fall(self):
        asker = Asker(0, 2, 50, 5)
        asker.begin(8)
        asker.fall()
        self.assertEqual(asker.begin(0), ("prepare", 10))

    def test_a_fall_leaves_no_ballot(self):
        asker = begun(5)
        asker.fall()
        self.assertIsNone(asker.ballot)
        asker.fall()
        self.assertIsNone(asker.ballot)

    def test_nothing_is_noted_of_the_ballot_before(self):
        asker = begun(3)
        asker.hear(promise(10, 0, None))
        asker.begin(11)
        self.assertIsNone(asker.hear(promise(13, 1, None)))
        self.assertEqual(asker.hear(promise(13, 2, None)), ("ask", 13, 50))
        self.assertEqual(asker.backers(13), (1, 2))


class Promises(unittest.TestCase):
    def test_asks_as_soon_as_more_than_half_promised(self):
        for many in range(1, 10):
            asker = begun(many)
            heard = hear_all(asker, [promise(10, voter, None) for voter in range(many)])
            half = many // 2
            self.assertEqual(heard, [None] * half + [("ask", 10, 50)] + [None] * (many - half - 1))
            self.assertEqual(asker.backers(10), tuple(range(half + 1)))

    def test_just_half_is_too_few(self):
        for many in (2, 4, 6):
            asker = begun(many)
            self.assertEqual(set(hear_all(asker, [promise(10, voter, None) for voter in range(many // 2)])), {None})
            self.assertIsNone(asker.backers(10))

    def test_a_promise_that_comes_twice_is_noted_once(self):
        asker = begun(3)
        self.assertEqual(hear_all(asker, [promise(10, 2, None)] * 5), [None] * 5)
        self.assertIsNone(asker.backers(10))
        self.assertEqual(asker.hear(promise(10, 0, None)), ("ask", 10, 50))
        self.assertEqual(asker.backers(10), (0, 2))

    def test_a_promise_of_another_ballot_does_nothing(self):
        for ballot in (0, 1, 7, 13, LARGE):
            asker = begun(1)
            self.assertIsNone(asker.hear(promise(ballot, 0, None)))
            self.assertIsNone(asker.backers(ballot))
            self.assertEqual(asker.hear(promise(10, 0, None)), ("ask", 10, 50))

    def test_promises_do_nothing_behind_a_fall(self):
        asker = begun(1)
        asker.fall()
        self.assertIsNone(asker.hear(promise(10, 0, None)))
        self.assertIsNone(asker.backers(10))

    def test_promises_do_nothing_behind_the_ask(self):
        asker = begun(5)
        hear_all(asker, [promise(10, voter, None) for voter in (4, 0, 2)])
        self.assertEqual(hear_all(asker, [promise(10, voter, (9, 1)) for voter in (1, 3, 4)]), [None] * 3)
        self.assertEqual(asker.backers(10), (0, 2, 4))

    def test_backers_rise_in_whatever_order_their_promises_came(self):
        for order in itertools.permutations((6, 0, 3, 5)):
            asker = begun(7)
            hear_all(asker, [promise(10, voter, None) for voter in order])
            self.assertEqual(asker.backers(10), (0, 3, 5, 6))

    def test_backers_stay_behind_a_fall_and_a_begin(self):
        asker = begun(1)
        asker.hear(promise(10, 0, None))
        asker.fall()
        self.assertEqual(asker.backers(10), (0,))
        asker.begin(0)
        self.assertEqual((asker.backers(10), asker.backers(13)), ((0,), None))


class Wishes(unittest.TestCase):
    # The ask behind promises with these last votes.
    def asked(self, lasts, wish=50):
        asker = begun(2 * len(lasts) - 1, wish)
        return hear_all(asker, [promise(10, voter, last) for voter, last in enumerate(lasts)])[-1]

    def test_its_own_where_there_is_no_last_vote(self):
        for wish in WISHES:
            self.assertEqual(self.asked((None, None, None), wish), ("ask", 10, wish))

    def test_that_of_the_one_last_vote(self):
        for wish in WISHES:
            for lasts in itertools.permutations((None, (0, wish), None)):
                self.assertEqual(self.asked(lasts), ("ask", 10, wish))

    def test_that_of_the_last_vote_with_the_greatest_ballot(self):
        for low, high in itertools.permutations(WISHES, 2):
            for lasts in itertools.permutations(((3, low), None, (4, high), (3, low))):
                self.assertEqual(self.asked(lasts), ("ask", 10, high))

    def test_several_last_votes_in_one_ballot(self):
        self.assertEqual(self.asked(((4, -7), (4, -7), None)), ("ask", 10, -7))

    def test_a_last_vote_in_ballot_0_for_the_wish_0_is_one(self):
        self.assertEqual(self.asked(((0, 0), None)), ("ask", 10, 0))

    def test_last_votes_of_promises_that_were_not_noted_do_not_count(self):
        asker = begun(3)
        asker.hear(promise(7, 0, (5, 99)))
        self.assertEqual(hear_all(asker, [promise(10, 1, None), promise(10, 2, None)])[-1], ("ask", 10, 50))


if __name__ == "__main__":
    unittest.main()
