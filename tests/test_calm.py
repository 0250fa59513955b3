import unittest

from drawn import LARGE, WISHES, Play, all_told, calm_by_hand, gather, more_than_half, room_after, spread
from onechoice.rooms import Room


class NewRoom(unittest.TestCase):
    def test_its_acts_in_their_order(self):
        room = Room((7, 8), 3)
        self.assertIsNone(room.calm(1))
        self.assertEqual(room.letters(), (
            ("prepare", 1),
            ("promise", 1, 0, None), ("promise", 1, 1, None), ("promise", 1, 2, None),
            ("ask", 1, 8),
            ("vote", 1, 0, 8), ("vote", 1, 1, 8), ("vote", 1, 2, 8),
        ))
        self.assertEqual(room.backers(1), (0, 1))
        self.assertEqual((room.ballot_of(0), room.ballot_of(1)), (None, 1))

    def test_every_number_of_askers_and_voters(self):
        for askers in range(1, 5):
            for many in range(1, 8):
                for asker in range(askers):
                    room = Room(WISHES[:askers], many)
                    room.calm(asker)
                    self.assertEqual(room.ballot_of(asker), asker)
                    self.assertEqual(room.backers(asker), tuple(range(more_than_half(many))))
                    self.assertEqual(room.votes(asker), tuple(range(many)))
                    self.assertEqual(room.chosen(), ((asker, WISHES[asker]),))
                    self.assertEqual(room.choice(), WISHES[asker])


class Ballot(unittest.TestCase):
    def test_greater_than_all_in_letters(self):
        room = Room((7, 8), 3)
        room.begin(0, 4)
        room.calm(0)
        self.assertEqual(room.ballot_of(0), 6)
        room.calm(1)
        self.assertEqual(room.ballot_of(1), 7)
        room.begin(1, LARGE)
        room.calm(0)
        self.assertEqual(room.ballot_of(0), LARGE + 2)

    def test_the_least_of_these(self):
        room = Room((7, 8, 9), 1)
        ballots = []
        for asker in (0, 1, 2, 0, 2, 2, 1, 1):
            room.calm(asker)
            ballots.append(room.ballot_of(asker))
        self.assertEqual(ballots, [0, 1, 2, 3, 5, 8, 10, 13])


class Behind(unittest.TestCase):
    def test_a_choice(self):
        room = Room((7, 8, 9), 5)
        for asker in (1, 0, 2, 1):
            room.calm(asker)
            self.assertEqual(room.choice(), 8)
        self.assertEqual(room.chosen(), ((1, 8), (3, 8), (5, 8), (7, 8)))

    def test_a_choice_that_nobody_knows_of(self):
        room = Room((7, 8), 5)
        gather(room, room.begin(0, 0), (0, 1, 2))
        room.fall(0)
        spread(room, 0, (2, 3, 4))
        room.calm(1)
        self.assertEqual(room.chosen(), ((0, 7), (1, 7)))

    def test_an_asker_that_fell(self):
        room = Room((7, 8), 3)
        room.begin(0, 0)
        gather(room, 0, (0, 1))
        room.fall(0)
        room.calm(1)
        self.assertEqual((room.choice(), room.ballot_of(0)), (8, None))
        room.calm(0)
        self.assertEqual((room.choice(), room.ballot_of(0)), (8, 2))

    # The first two promises hold no last vote, and the ask is written as soon as they came.
    def test_a_vote_of_a_voter_whose_promise_comes_behind_the_ask(self):
        room = Room((7, 8), 3)
        gather(room, room.begin(0, 0), (0, 2))
        spread(room, 0, (2,))
        room.calm(1)
        self.assertEqual((room.backers(1), room.choice()), ((0, 1), 8))

    def test_a_vote_of_a_voter_whose_promise_comes_ahead_of_the_ask(self):
        room = Room((7, 8), 3)
        gather(room, room.begin(0, 0), (0, 2))
        spread(room, 0, (0,))
        room.calm(1)
        self.assertEqual((room.backers(1), room.choice()), ((0, 1), 7))

    def test_its_own_ballot_that_it_is_in_the_middle_of(self):
        room = Room((7,), 3)
        room.begin(0, 0)
        gather(room, 0, (2,))
        room.calm(0)
        self.assertEqual((room.backers(0), room.backers(1)), (None, (0, 1)))

    def test_others_in_the_middle_of_it(self):
        room = Room((7, 8, 9), 5)
        gather(room, room.begin(0, 50), (0, 1))
        gather(room, room.begin(2, 0), (2, 3, 4))
        room.calm(1)
        self.assertEqual(room.choice(), 8)
        self.assertEqual([room.ballot_of(asker) for asker in range(3)], [51, 52, 2])
        spread(room, 2, range(5))
        gather(room, 51, range(5))
        self.assertEqual(room.chosen(), ((52, 8),))


class Drawn(unittest.TestCase):
    def test_it_does_what_its_acts_by_hand_do(self):
        for seed in range(140):
            play = Play(seed, calms=True).run_through(80)
            for asker in range(play.askers):
                calm = room_after(play.wishes, play.many, play.acts)
                by_hand = room_after(play.wishes, play.many, play.acts)
                self.assertIsNone(calm.calm(asker))
                calm_by_hand(by_hand, asker, play.many)
                self.assertEqual(all_told(calm, play.askers, play.many), all_told(by_hand, play.askers, play.many))


if __name__ == "__main__":
    unittest.main()
