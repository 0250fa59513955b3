import random
import unittest

from drawn import HUGE, LARGE, Play, all_told, do
from onechoice.errors import NoAsker, NoLetter, NoVoter
from onechoice.rooms import Room

OF_ASKERS = (
    lambda room, asker: room.begin(asker, 0),
    lambda room, asker: room.begin(asker, LARGE),
    lambda room, asker: room.fall(asker),
    lambda room, asker: room.ballot_of(asker),
    lambda room, asker: room.calm(asker),
)
OF_VOTERS = (
    lambda room, voter: room.promised(voter),
    lambda room, voter: room.voted(voter),
)


# The numbers that are not there where there are so many: one below, one beyond, far beyond.
def not_there(many):
    return (-1, -2, -many, -many - 1, -LARGE, -HUGE, many, many + 1, 2 * many + 1, LARGE, HUGE)


class Case(unittest.TestCase):
    # The refusal is of this very class, and all that can be asked is as it was.
    def refused(self, refusal, room, askers, many, act):
        told = all_told(room, askers, many)
        with self.assertRaises(refusal) as taken:
            act()
        self.assertIs(type(taken.exception), refusal)
        self.assertEqual(all_told(room, askers, many), told)

    def rooms(self):
        for askers in range(1, 5):
            for many in range(1, 8):
                new = Room((7, 8, 9, 10)[:askers], many)
                yield new, askers, many
                used = Room((7, 8, 9, 10)[:askers], many)
                used.calm(askers - 1)
                used.begin(0, 0)
                yield used, askers, many


class Askers(Case):
    def test_not_there(self):
        for room, askers, many in self.rooms():
            for number in not_there(askers):
                for act in OF_ASKERS:
                    self.refused(NoAsker, room, askers, many, lambda: act(room, number))

    def test_there(self):
        for room, askers, many in self.rooms():
            for number in range(askers):
                for act in OF_ASKERS:
                    act(room, number)

    def test_none_at_all(self):
        room = Room((), 2)
        for act in OF_ASKERS:
            self.refused(NoAsker, room, 0, 2, lambda: act(room, 0))


class Voters(Case):
    def test_not_there(self):
        for room, askers, many in self.rooms():
            for number in not_there(many):
                for act in OF_VOTERS:
                    self.refused(NoVoter, room, askers, many, lambda: act(room, number))

    def test_there(self):
        for room, askers, many in self.rooms():
            for number in range(many):
                for act in OF_VOTERS:
                    act(room, number)


class Bring(Case):
    def test_no_letter(self):
        for room, askers, many in self.rooms():
            for k in not_there(len(room.letters())):
                self.refused(NoLetter, room, askers, many, lambda: room.bring(k, 0))

    def test_no_letter_in_a_new_room(self):
        for k in (-1, 0, 1):
            room = Room((7,), 1)
            self.refused(NoLetter, room, 1, 1, lambda: room.bring(k, 0))

    def test_no_letter_goes_ahead_of_no_voter(self):
        for room, askers, many in self.rooms():
            for k in not_there(len(room.letters())):
                for voter in not_there(many):
                    self.refused(NoLetter, room, askers, many, lambda: room.bring(k, voter))

    def test_no_voter_whatever_the_letter(self):
        for room, askers, many in self.rooms():
            for k in range(len(room.letters())):
                for voter in not_there(many):
                    self.refused(NoVoter, room, askers, many, lambda: room.bring(k, voter))

    # The promise would bring an ask if it came.
    def test_no_voter_for_a_promise_that_waits(self):
        room = Room((7,), 1)
        room.begin(0, 0)
        room.bring(0, 0)
        for voter in not_there(1):
            self.refused(NoVoter, room, 1, 1, lambda: room.bring(1, voter))
        self.assertIsNone(room.backers(0))
        room.bring(1, 0)
        self.assertEqual(room.letters()[-1], ("ask", 0, 7))

    def test_all_four_letters_are_among_those_refused(self):
        kinds = {letter[0] for room, askers, many in self.rooms() for letter in room.letters()}
        self.assertEqual(kinds, {"prepare", "promise", "ask", "vote"})


class Ballots(Case):
    # A ballot is no asker and no voter: of any whole number it is told what there is.
    def test_no_ballot_is_refused(self):
        for room, askers, many in self.rooms():
            for ballot in (-HUGE, -LARGE, -5, -1, LARGE, HUGE):
                self.assertIsNone(room.backers(ballot))
                self.assertEqual(room.votes(ballot), ())


class Drawn(Case):
    def refuse_all(self, room, source, askers, many):
        for act in OF_ASKERS:
            with self.assertRaises(NoAsker):
                act(room, source.choice(not_there(askers)))
        for act in OF_VOTERS:
            with self.assertRaises(NoVoter):
                act(room, source.choice(not_there(many)))
        with self.assertRaises(NoLetter):
            room.bring(source.choice(not_there(len(room.letters()))), 0)
        for k in range(len(room.letters())):
            with self.assertRaises(NoVoter):
                room.bring(k, source.choice(not_there(many)))

    # Not only what is told is the same, but also all that comes of later acts.
    def test_a_room_with_refusals_goes_on_like_one_without(self):
        for seed in range(56):
            play = Play(seed, calms=True)
            refusing = play.new_room()
            source = random.Random(seed)
            for act, told in play.run(60):
                self.refuse_all(refusing, source, play.askers, play.many)
                self.assertEqual(do(refusing, act), told)
            self.assertEqual(all_told(refusing, play.askers, play.many), play.told())


if __name__ == "__main__":
    unittest.main()
