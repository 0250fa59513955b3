import inspect
import itertools
import unittest

from drawn import LARGE, WISHES, all_told, ask_of, bring, gather, letters_of, more_than_half, spread
from onechoice.rooms import Room

SIZES = tuple(itertools.product(range(1, 5), range(1, 8)))


# Walked up one by one: at least this number, its own by [0.4], and greater than these.
def least_ballot(asker, askers, least, had):
    ballot = max(least, 0)
    while ballot % askers != asker or ballot <= max(had, default=-1):
        ballot += 1
    return ballot


class Interface(unittest.TestCase):
    def test_names_and_arguments(self):
        self.assertEqual(list(inspect.signature(Room).parameters), ["wishes", "many"])
        for name, arguments in (
            ("letters", []), ("begin", ["asker", "least"]), ("fall", ["asker"]), ("bring", ["k", "voter"]),
            ("promised", ["voter"]), ("voted", ["voter"]), ("ballot_of", ["asker"]), ("backers", ["ballot"]),
            ("votes", ["ballot"]), ("chosen", []), ("choice", []), ("calm", ["asker"]),
        ):
            method = getattr(Room((7,), 1), name)
            self.assertEqual(list(inspect.signature(method).parameters), arguments)


class NewRoom(unittest.TestCase):
    def test_nothing_is_there(self):
        for askers, many in SIZES:
            room = Room(WISHES[:askers], many)
            self.assertEqual(room.letters(), ())
            self.assertEqual([room.ballot_of(asker) for asker in range(askers)], [None] * askers)
            self.assertEqual([room.promised(voter) for voter in range(many)], [None] * many)
            self.assertEqual([room.voted(voter) for voter in range(many)], [None] * many)
            self.assertEqual([room.backers(ballot) for ballot in range(6)], [None] * 6)
            self.assertEqual([room.votes(ballot) for ballot in range(6)], [()] * 6)
            self.assertEqual(room.chosen(), ())
            self.assertIsNone(room.choice())

    def test_the_wishes_that_are_handed_in_are_not_changed(self):
        wishes = (5, -5)
        room = Room(wishes, 3)
        room.calm(0)
        room.calm(1)
        self.assertEqual(wishes, (5, -5))

    def test_rooms_share_nothing(self):
        wishes = (5, -5)
        one, other = Room(wishes, 3), Room(wishes, 3)
        new = all_told(other, 2, 3)
        one.calm(1)
        self.assertEqual(all_told(other, 2, 3), new)
        self.assertEqual(all_told(Room(wishes, 3), 2, 3), new)

    def test_somewhat_beyond_the_bounds_nothing_is_refused(self):
        wishes = (1, 2, 3, 4, 5, 6)
        room = Room(wishes, 9)
        self.assertEqual([room.begin(asker, 0) for asker in range(6)], [0, 1, 2, 3, 4, 5])
        room.calm(5)
        self.assertEqual((room.choice(), room.backers(11)), (6, (0, 1, 2, 3, 4)))
        empty = Room((), 2)
        self.assertEqual(all_told(empty, 0, 2), all_told(Room((1,), 2), 0, 2))
        nobody = Room((1,), 0)
        nobody.calm(0)
        self.assertEqual((nobody.letters(), nobody.chosen()), ((("prepare", 0),), ()))


class Begin(unittest.TestCase):
    def test_the_least_ballot_of_its_own(self):
        for askers in range(1, 5):
            for asker in range(askers):
                for least in tuple(range(14)) + (LARGE, LARGE + 1, LARGE + 2, LARGE + 3):
                    room = Room(WISHES[:askers], 3)
                    ballot = room.begin(asker, least)
                    self.assertEqual(ballot, least_ballot(asker, askers, least, ()))
                    self.assertIs(type(ballot), int)
                    self.assertEqual(room.ballot_of(asker), ballot)
                    self.assertEqual(room.letters(), (("prepare", ballot),))

    def test_greater_than_all_that_it_had(self):
        for askers in range(1, 5):
            for leasts in itertools.product((0, 3, 9), repeat=4):
                room = Room(WISHES[:askers], 3)
                had = []
                for least in leasts:
                    had.append(room.begin(askers - 1, least))
                    self.assertEqual(had[-1], least_ballot(askers - 1, askers, least, had[:-1]))
                    self.assertEqual(room.ballot_of(askers - 1), had[-1])
                self.assertEqual(room.letters(), tuple(("prepare", ballot) for ballot in had))

    def test_greater_than_all_that_it_had_behind_a_fall(self):
        room = Room((7, 8), 3)
        ballots = []
        for least in (0, 0, 20, 3, LARGE, 0):
            ballots.append(room.begin(1, least))
            room.fall(1)
        self.assertEqual(ballots, [1, 3, 21, 23, LARGE + 1, LARGE + 3])

    def test_what_others_had_does_not_matter(self):
        room = Room((7, 8, 9), 3)
        room.begin(0, 30)
        self.assertEqual((room.begin(1, 0), room.begin(2, 0), room.begin(1, 0)), (1, 2, 4))
        self.assertEqual([room.ballot_of(asker) for asker in range(3)], [30, 4, 2])

    def test_a_number_below_0(self):
        for least in (-1, -2, -3, -4, -LARGE):
            room = Room((7, 8, 9), 3)
            self.assertEqual([room.begin(asker, least) for asker in (2, 1, 0)], [2, 1, 0])

    def test_it_does_nothing_to_the_voters(self):
        room = Room((7, 8), 2)
        room.begin(0, 4)
        self.assertEqual([room.promised(voter) for voter in range(2)], [None, None])

    def test_a_second_begin_notes_nothing_of_the_first(self):
        room = Room((7,), 3)
        first = room.begin(0, 0)
        gather(room, first, (0,))
        second = room.begin(0, 0)
        gather(room, second, (1,))
        self.assertIsNone(room.backers(second))
        gather(room, second, (2,))
        self.assertEqual(room.backers(second), (1, 2))
        self.assertIsNone(room.backers(first))

    def test_a_second_begin_notes_no_last_vote_of_the_first(self):
        room = Room((7, 8), 5)
        gather(room, room.begin(0, 0), (0, 1, 2))
        spread(room, 0, (0,))
        room.begin(1, 0)
        gather(room, 1, (0,))
        self.assertEqual(letters_of(room, "promise", 1), (("promise", 1, 0, (0, 7)),))
        room.begin(1, 0)
        gather(room, 3, (2, 3, 4))
        self.assertEqual(ask_of(room, 3), ("ask", 3, 8))

    def test_it_may_ask_anew_behind_an_ask(self):
        room = Room((7,), 1)
        for ballot in range(4):
            self.assertEqual(room.begin(0, 0), ballot)
            gather(room, ballot, (0,))
            self.assertEqual(ask_of(room, ballot), ("ask", ballot, 7))


class Fall(unittest.TestCase):
    def test_it_has_no_ballot_any_more(self):
        room = Room((7, 8), 3)
        room.begin(0, 0)
        room.begin(1, 0)
        letters = room.letters()
        self.assertIsNone(room.fall(0))
        self.assertEqual((room.ballot_of(0), room.ballot_of(1)), (None, 1))
        self.assertEqual(room.letters(), letters)

    def test_without_a_ballot_and_twice(self):
        room = Room((7,), 3)
        self.assertIsNone(room.fall(0))
        self.assertIsNone(room.ballot_of(0))
        room.begin(0, 5)
        room.fall(0)
        room.fall(0)
        self.assertIsNone(room.ballot_of(0))
        self.assertEqual(room.begin(0, 0), 6)

    def test_promises_that_come_then_do_nothing(self):
        room = Room((7,), 3)
        room.begin(0, 0)
        room.fall(0)
        gather(room, 0, (0, 1, 2))
        self.assertEqual(len(letters_of(room, "promise", 0)), 3)
        self.assertIsNone(ask_of(room, 0))
        self.assertIsNone(room.backers(0))

    def test_promises_noted_ahead_of_it_are_of_no_use_behind(self):
        room = Room((7,), 3)
        room.begin(0, 0)
        gather(room, 0, (0,))
        room.fall(0)
        gather(room, 0, (1,))
        self.assertEqual(room.begin(0, 0), 1)
        gather(room, 0, (0, 1, 2))
        gather(room, 1, (2,))
        self.assertEqual((ask_of(room, 0), ask_of(room, 1)), (None, None))

    def test_what_was_asked_stays(self):
        room = Room((7,), 3)
        room.begin(0, 0)
        gather(room, 0, (0, 2))
        room.fall(0)
        self.assertEqual(room.backers(0), (0, 2))
        spread(room, 0, (1, 2))
        self.assertEqual(room.chosen(), ((0, 7),))


class BringPrepare(unittest.TestCase):
    def test_to_this_voter_alone(self):
        for voter in range(3):
            room = Room((7, 8), 3)
            room.begin(1, 0)
            self.assertIsNone(room.bring(0, voter))
            self.assertEqual([room.promised(other) for other in range(3)],
                             [1 if other == voter else None for other in range(3)])
            self.assertEqual(room.letters(), (("prepare", 1), ("promise", 1, voter, None)))

    def test_ballot_0(self):
        room = Room((7,), 3)
        room.begin(0, 0)
        room.bring(0, 2)
        self.assertEqual((room.promised(2), room.voted(2)), (0, None))

    def test_of_a_lesser_and_of_the_same_ballot(self):
        room = Room((7, 8), 3)
        room.begin(0, 0)
        room.begin(1, 0)
        bring(room, ("prepare", 1), 0)
        told = all_told(room, 2, 3)
        bring(room, ("prepare", 0), 0)
        bring(room, ("prepare", 1), 0)
        self.assertEqual(all_told(room, 2, 3), told)

    def test_of_a_greater_ballot_with_the_last_vote(self):
        room = Room((7, 8), 1)
        room.begin(0, 0)
        gather(room, 0, (0,))
        spread(room, 0, (0,))
        room.begin(1, 0)
        bring(room, ("prepare", 1), 0)
        self.assertEqual(room.letters()[-1], ("promise", 1, 0, (0, 7)))
        self.assertEqual((room.promised(0), room.voted(0)), (1, (0, 7)))


class BringAsk(unittest.TestCase):
    def test_to_this_voter_alone(self):
        for voter in range(3):
            room = Room((-7,), 3)
            room.begin(0, 0)
            gather(room, 0, (0, 1))
            self.assertIsNone(bring(room, ("ask", 0, -7), voter))
            self.assertEqual([room.voted(other) for other in range(3)],
                             [(0, -7) if other == voter else None for other in range(3)])
            self.assertEqual(room.promised(voter), 0)
            self.assertEqual(room.letters()[-1], ("vote", 0, voter, -7))

    def test_of_a_lesser_ballot(self):
        room = Room((7, 8), 3)
        room.begin(0, 0)
        room.begin(1, 0)
        gather(room, 0, (0, 1))
        bring(room, ("prepare", 1), 0)
        told = all_told(room, 2, 3)
        spread(room, 0, (0,))
        self.assertEqual(all_told(room, 2, 3), told)

    def test_a_voter_that_promised_nothing_votes_and_promises(self):
        room = Room((7,), 3)
        room.begin(0, 6)
        gather(room, 6, (0, 1))
        spread(room, 6, (2,))
        self.assertEqual((room.promised(2), room.voted(2)), (6, (6, 7)))
        bring(room, ("prepare", 6), 2)
        self.assertEqual(len(letters_of(room, "promise", 6)), 2)


class BringPromise(unittest.TestCase):
    def test_to_the_asker_of_its_ballot_whatever_voter_is_told(self):
        for askers, many in SIZES:
            for asker in range(askers):
                room = Room(WISHES[:askers], many)
                for other in range(askers):
                    room.begin(other, 0)
                for voter in range(many):
                    bring(room, ("prepare", asker), voter)
                for voter in range(more_than_half(many)):
                    self.assertIsNone(ask_of(room, asker))
                    self.assertIsNone(bring(room, ("promise", asker, voter, None), many - 1 - voter))
                self.assertEqual(room.letters()[-1], ("ask", asker, WISHES[asker]))
                self.assertEqual(room.backers(asker), tuple(range(more_than_half(many))))
                self.assertEqual([room.ballot_of(other) for other in range(askers)], list(range(askers)))

    def test_it_does_nothing_to_the_voter(self):
        room = Room((7,), 2)
        room.begin(0, 3)
        bring(room, ("prepare", 3), 0)
        bring(room, ("promise", 3, 0, None), 1)
        self.assertEqual((room.promised(0), room.promised(1)), (3, None))

    def test_of_a_ballot_that_the_asker_no_longer_has(self):
        room = Room((7,), 1)
        room.begin(0, 0)
        bring(room, ("prepare", 0), 0)
        room.begin(0, 0)
        bring(room, ("promise", 0, 0, None))
        self.assertEqual(room.letters(), (("prepare", 0), ("promise", 0, 0, None), ("prepare", 1)))
        self.assertEqual((room.backers(0), room.backers(1)), (None, None))

    def test_that_comes_twice(self):
        room = Room((7,), 3)
        room.begin(0, 0)
        for coming in range(4):
            gather(room, 0, (1,))
        self.assertIsNone(ask_of(room, 0))
        gather(room, 0, (0,))
        self.assertEqual((ask_of(room, 0), room.backers(0)), (("ask", 0, 7), (0, 1)))

    def test_behind_the_ask(self):
        room = Room((7,), 5)
        room.begin(0, 0)
        gather(room, 0, (4, 1, 3))
        told = room.letters()
        gather(room, 0, (0, 2, 1))
        self.assertEqual(room.backers(0), (1, 3, 4))
        self.assertEqual(room.letters(), told + (("promise", 0, 0, None), ("promise", 0, 2, None)))

    def test_just_half_is_too_few(self):
        for many in (2, 4, 6):
            room = Room((7,), many)
            room.begin(0, 0)
            gather(room, 0, range(many // 2))
            self.assertIsNone(ask_of(room, 0))
            gather(room, 0, (many - 1,))
            self.assertEqual(ask_of(room, 0), ("ask", 0, 7))


class BringVote(unittest.TestCase):
    def test_to_nobody(self):
        room = Room((7, 8), 3)
        room.calm(0)
        room.begin(1, 0)
        for letter in letters_of(room, "vote", 0):
            for voter in range(3):
                told = all_told(room, 2, 3)
                self.assertIsNone(bring(room, letter, voter))
                self.assertEqual(all_told(room, 2, 3), told)


class Wish(unittest.TestCase):
    def test_its_own_where_there_is_no_last_vote(self):
        for wish in WISHES:
            room = Room((1, wish), 3)
            gather(room, room.begin(1, 0), (0, 1))
            self.assertEqual(ask_of(room, 1), ("ask", 1, wish))

    def test_that_of_the_one_last_vote(self):
        for wish in WISHES:
            for voter in range(3):
                room = Room((wish, 55), 5)
                gather(room, room.begin(0, 0), range(5))
                spread(room, 0, (voter,))
                gather(room, room.begin(1, 0), (2, 1, 0))
                self.assertEqual(ask_of(room, 1), ("ask", 1, wish))

    def test_a_last_vote_that_no_backer_gave_does_not_count(self):
        room = Room((7, 8), 3)
        gather(room, room.begin(0, 0), (0, 1))
        spread(room, 0, (0,))
        gather(room, room.begin(1, 0), (1, 2))
        self.assertEqual(ask_of(room, 1), ("ask", 1, 8))

    # Voter 0 votes in ballot 0, voter 1 in ballot 1, voter 2 in no ballot.
    def test_that_of_the_greatest_ballot_of_several(self):
        for low, high in ((7, 8), (8, 7), (LARGE, -LARGE), (-LARGE, LARGE), (0, -1), (-1, 0)):
            for order in itertools.permutations((0, 1, 2)):
                room = Room((low, high, 55), 5)
                gather(room, room.begin(0, 0), (0, 3, 4))
                gather(room, room.begin(1, 0), (1, 3, 4))
                spread(room, 0, (0,))
                spread(room, 1, (1,))
                self.assertEqual((room.voted(0), room.voted(1)), ((0, low), (1, high)))
                gather(room, room.begin(2, 0), order)
                self.assertEqual(ask_of(room, 2), ("ask", 2, high))
                self.assertEqual(room.backers(2), (0, 1, 2))


class Backers(unittest.TestCase):
    def test_of_every_sort_of_ballot(self):
        room = Room((7, 8), 3)
        room.begin(0, 0)
        gather(room, 0, (2, 0))
        room.begin(1, 0)
        gather(room, 1, (1,))
        self.assertEqual([room.backers(ballot) for ballot in (-2, -1, 0, 1, 2, LARGE)],
                         [None, None, (0, 2), None, None, None])

    def test_of_several_ballots_of_one_asker(self):
        room = Room((7, 8), 3)
        for voters in ((0, 1), (2, 1), (2, 0)):
            gather(room, room.begin(1, 0), voters)
        self.assertEqual([room.backers(ballot) for ballot in (1, 3, 5)], [(0, 1), (1, 2), (0, 2)])


class Choices(unittest.TestCase):
    def asked(self, wish, many):
        room = Room((wish,), many)
        gather(room, room.begin(0, 0), range(many))
        return room

    def test_none_half_and_more(self):
        for wish in WISHES:
            for many in range(1, 8):
                room = self.asked(wish, many)
                for voted in range(many + 1):
                    self.assertEqual(room.votes(0), tuple(range(voted)))
                    is_chosen = 2 * voted > many
                    self.assertEqual(room.chosen(), ((0, wish),) if is_chosen else ())
                    self.assertEqual(room.choice(), wish if is_chosen else None)
                    if voted < many:
                        spread(room, 0, (voted,))

    def test_votes_rise_in_whatever_order_they_were_given(self):
        for order in itertools.permutations((3, 0, 2)):
            room = self.asked(7, 4)
            spread(room, 0, order)
            self.assertEqual(room.votes(0), (0, 2, 3))

    def test_votes_stay_as_voters_vote_again(self):
        room = Room((7, 8), 3)
        room.calm(0)
        room.calm(1)
        self.assertEqual((room.votes(0), room.votes(1), room.votes(2)), ((0, 1, 2), (0, 1, 2), ()))
        self.assertEqual([room.voted(voter) for voter in range(3)], [(1, 7)] * 3)

    def test_votes_in_unlike_ballots_do_not_add_up(self):
        room = Room((7,), 4)
        for voter in range(4):
            ballot = room.begin(0, 0)
            gather(room, ballot, range(4))
            spread(room, ballot, (voter,))
        self.assertEqual([room.votes(ballot) for ballot in range(4)], [(0,), (1,), (2,), (3,)])
        self.assertEqual((room.chosen(), room.choice()), ((), None))

    def test_several_ballots_are_chosen(self):
        room = Room((7, 8, 9), 3)
        room.calm(1)
        room.begin(2, 20)
        gather(room, 20, (0, 1))
        spread(room, 20, (0,))
        room.begin(0, 9)
        gather(room, 9, (2,))
        room.calm(0)
        self.assertEqual(room.chosen(), ((1, 8), (21, 8)))
        self.assertEqual(room.choice(), 8)

    # Voter 1 voted in ballot 0 ahead of ballot 1, voter 0 votes in it behind that.
    def test_chosen_rises_though_the_greater_ballot_was_chosen_first(self):
        room = Room((7, 8), 3)
        gather(room, room.begin(0, 0), (0, 1))
        spread(room, 0, (1,))
        gather(room, room.begin(1, 0), (1, 2))
        spread(room, 1, (1, 2))
        self.assertEqual(room.chosen(), ((1, 7),))
        spread(room, 0, (0,))
        self.assertEqual(room.chosen(), ((0, 7), (1, 7)))


class Letters(unittest.TestCase):
    def test_a_letter_written_again_is_the_same_letter(self):
        room = Room((7,), 1)
        room.calm(0)
        letters = room.letters()
        self.assertEqual(letters, (("prepare", 0), ("promise", 0, 0, None), ("ask", 0, 7), ("vote", 0, 0, 7)))
        bring(room, ("ask", 0, 7), 0)
        bring(room, ("ask", 0, 7), 0)
        self.assertEqual(room.letters(), letters)

    def test_in_the_order_in_which_they_were_written_first(self):
        room = Room((7, 8), 3)
        expected = []
        for act, letter in (
            ((1, None), ("prepare", 1)),
            ((("prepare", 1), 2), ("promise", 1, 2, None)),
            ((0, None), ("prepare", 0)),
            ((("prepare", 0), 1), ("promise", 0, 1, None)),
            ((("prepare", 1), 0), ("promise", 1, 0, None)),
            ((("promise", 1, 2, None), 0), None),
            ((("promise", 1, 0, None), 0), ("ask", 1, 8)),
            ((("ask", 1, 8), 1), ("vote", 1, 1, 8)),
            ((0, None), ("prepare", 2)),
            ((("prepare", 2), 1), ("promise", 2, 1, (1, 8))),
            ((("ask", 1, 8), 2), ("vote", 1, 2, 8)),
            ((("ask", 1, 8), 2), None),
        ):
            if act[1] is None:
                room.begin(act[0], 0)
            else:
                bring(room, act[0], act[1])
            if letter is not None:
                expected.append(letter)
            self.assertEqual(room.letters(), tuple(expected))

    def test_letter_k_is_counted_from_0(self):
        room = Room((7, 8, 9), 1)
        for asker in (2, 0, 1):
            room.begin(asker, 0)
        room.bring(1, 0)
        self.assertEqual(room.promised(0), 0)
        room.bring(2, 0)
        self.assertEqual(room.promised(0), 1)
        room.bring(0, 0)
        self.assertEqual(room.promised(0), 2)


if __name__ == "__main__":
    unittest.main()
