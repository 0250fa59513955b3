import itertools
import random
import unittest

from onechoice.letters import Pile, ask, prepare, promise, vote
from onechoice.voters import Voter

LARGE = 10**40
WISHES = (-LARGE, -2, -1, 0, 1, 7, LARGE)


def state(voter):
    return (voter.promised(), voter.voted())


def voter_after(letters, number=3):
    voter = Voter(number)
    for letter in letters:
        voter.hear(letter)
    return voter


def written_in(row, number=3):
    pile = Pile()
    voter = Voter(number)
    for letter in row:
        bring(voter, letter, pile)
    return pile.letters()


def bring(voter, letter, pile):
    answer = voter.hear(letter)
    if answer is not None:
        pile.write(answer)


# What the row comes to, told by the row as a whole and not step by step: the
# greatest ballot in it, and the last ask with no greater ballot ahead of it.
def promised_by_row(row):
    return max([letter[1] for letter in row], default=None)


def voted_by_row(row):
    votes = [
        (letter[1], letter[2])
        for k, letter in enumerate(row)
        if letter[0] == "ask" and letter[1] >= max([earlier[1] for earlier in row[:k]], default=0)
    ]
    return votes[-1] if votes else None


# In each ballot one wish alone is asked; the wishes rise and fall as ballots rise.
def letter_of(kind, ballot):
    return prepare(ballot) if kind == "prepare" else ask(ballot, (5, -5, 0, LARGE, -LARGE)[ballot % 5])


def short_rows():
    choices = [letter_of(kind, ballot) for kind in ("prepare", "ask") for ballot in range(3)]
    for length in range(5):
        yield from itertools.product(choices, repeat=length)


def long_rows():
    source = random.Random(1)
    for most in (3, 10, 60, 400) * 5:
        kinds = [source.choice(("prepare", "ask")) for step in range(120)]
        # Ballots drift upwards, so that late steps are taken as well as refused.
        yield tuple(letter_of(kind, source.randrange(most) * (step + 20) // 140) for step, kind in enumerate(kinds))


def all_rows():
    yield from short_rows()
    yield from long_rows()


class Case(unittest.TestCase):
    # The voter hears the letter behind those of a row, and then stands and has written as told.
    def heard(self, row, letter, answer, promised, voted):
        voter = voter_after(row)
        self.assertEqual(voter.hear(letter), answer)
        self.assertEqual(voter.promised(), promised)
        self.assertEqual(voter.voted(), voted)

    def nothing_done(self, row, letter):
        before = voter_after(row)
        self.heard(row, letter, None, before.promised(), before.voted())


class NewVoter(Case):
    def test_has_promised_nothing_and_given_no_vote(self):
        self.assertIsNone(Voter(0).promised())
        self.assertIsNone(Voter(0).voted())


class Prepare(Case):
    def test_nothing_promised(self):
        self.heard((), prepare(4), ("promise", 4, 3, None), 4, None)

    def test_ballot_0_with_nothing_promised(self):
        self.heard((), prepare(0), ("promise", 0, 3, None), 0, None)

    def test_lesser_ballot(self):
        self.nothing_done((prepare(4),), prepare(3))
        self.nothing_done((prepare(4),), prepare(0))
        self.nothing_done((ask(4, 9),), prepare(3))

    def test_same_ballot(self):
        self.nothing_done((prepare(4),), prepare(4))
        self.nothing_done((prepare(0),), prepare(0))

    def test_same_ballot_behind_the_vote_in_it(self):
        self.nothing_done((prepare(4), ask(4, 9)), prepare(4))
        self.nothing_done((ask(4, 9),), prepare(4))
        self.nothing_done((ask(0, 9),), prepare(0))

    def test_greater_ballot(self):
        self.heard((prepare(4),), prepare(5), ("promise", 5, 3, None), 5, None)
        self.heard((prepare(0),), prepare(1), ("promise", 1, 3, None), 1, None)
        self.heard((prepare(4),), prepare(LARGE), ("promise", LARGE, 3, None), LARGE, None)

    def test_behind_a_vote_it_holds_the_last_vote(self):
        for wish in WISHES:
            self.heard((ask(4, wish),), prepare(5), ("promise", 5, 3, (4, wish)), 5, (4, wish))
            self.heard((ask(0, wish),), prepare(1), ("promise", 1, 3, (0, wish)), 1, (0, wish))

    def test_behind_several_votes_it_holds_the_last_one(self):
        row = (ask(1, 50), prepare(2), ask(2, -7), prepare(6))
        self.heard(row, prepare(8), ("promise", 8, 3, (2, -7)), 8, (2, -7))

    def test_an_ask_that_was_not_taken_is_no_vote(self):
        self.heard((prepare(4), ask(3, 9)), prepare(5), ("promise", 5, 3, None), 5, None)


class Ask(Case):
    def test_nothing_promised(self):
        for wish in WISHES:
            self.heard((), ask(4, wish), ("vote", 4, 3, wish), 4, (4, wish))

    def test_ballot_0_with_nothing_promised(self):
        for wish in WISHES:
            self.heard((), ask(0, wish), ("vote", 0, 3, wish), 0, (0, wish))

    def test_lesser_ballot(self):
        self.nothing_done((prepare(4),), ask(3, 9))
        self.nothing_done((prepare(4),), ask(0, 9))
        self.nothing_done((ask(4, 8),), ask(3, 9))
        self.nothing_done((ask(2, 8), prepare(4)), ask(3, 9))

    def test_same_ballot(self):
        for wish in WISHES:
            self.heard((prepare(4),), ask(4, wish), ("vote", 4, 3, wish), 4, (4, wish))
            self.heard((prepare(0),), ask(0, wish), ("vote", 0, 3, wish), 0, (0, wish))

    def test_greater_ballot(self):
        for wish in WISHES:
            self.heard((prepare(4),), ask(5, wish), ("vote", 5, 3, wish), 5, (5, wish))
            self.heard((ask(4, 8),), ask(5, wish), ("vote", 5, 3, wish), 5, (5, wish))

    def test_it_promises_its_ballot(self):
        self.nothing_done((prepare(4), ask(6, 9)), prepare(5))
        self.nothing_done((prepare(4), ask(6, 9)), ask(5, 8))


class OtherLetters(Case):
    def test_promises_and_votes_do_nothing(self):
        for letter in (promise(9, 3, None), promise(9, 3, (1, 2)), vote(9, 3, 2)):
            self.nothing_done((), letter)
            self.nothing_done((prepare(4), ask(4, 1)), letter)


class Told(Case):
    def test_kinds(self):
        voter = voter_after((prepare(4), ask(5, -1)))
        self.assertIs(type(voter.promised()), int)
        self.assertIs(type(voter.voted()), tuple)
        for row, letter in (((ask(1, 2),), prepare(3)), ((), ask(1, 2))):
            self.assertIs(type(voter_after(row).hear(letter)), tuple)
        self.assertIs(type(voter_after((ask(1, 2),)).hear(prepare(3))[3]), tuple)

    def test_asked_again_the_same_is_told(self):
        voter = voter_after((prepare(4), ask(5, -1), prepare(7)))
        self.assertEqual(state(voter), (7, (5, -1)))
        self.assertEqual(state(voter), (7, (5, -1)))

    def test_what_is_handed_in_is_not_changed(self):
        letters = [ask(1, 2), prepare(3)]
        voter_after(letters)
        self.assertEqual(letters, [("ask", 1, 2), ("prepare", 3)])

    def test_what_was_told_does_not_change_with_later_letters(self):
        voter = voter_after((ask(1, 2),))
        told = (voter.voted(), voter.hear(prepare(3)))
        voter.hear(ask(3, 4))
        self.assertEqual(told, ((1, 2), ("promise", 3, 3, (1, 2))))

    def test_voters_share_nothing(self):
        one = Voter(0)
        other = Voter(1)
        one.hear(ask(5, 6))
        self.assertEqual(state(other), (None, None))


class Rows(Case):
    def test_the_greatest_ballot_is_promised_and_the_last_ask_that_was_taken_voted(self):
        for row in all_rows():
            self.assertEqual(state(voter_after(row)), (promised_by_row(row), voted_by_row(row)))

    def test_promises_and_ballots_of_votes_never_fall(self):
        for row in all_rows():
            voter = Voter(3)
            promised, voted = -1, -1
            for letter in row:
                voter.hear(letter)
                now = voter.voted()[0] if voter.voted() is not None else -1
                self.assertGreaterEqual(voter.promised(), promised)
                self.assertGreaterEqual(now, voted)
                self.assertGreaterEqual(voter.promised(), now)
                promised, voted = voter.promised(), now

    def test_a_letter_that_comes_once_more_changes_nothing(self):
        for row in all_rows():
            pile = Pile()
            voter = Voter(3)
            for letter in row:
                bring(voter, letter, pile)
            before = (state(voter), pile.letters())
            for letter in row:
                bring(voter, letter, pile)
                self.assertEqual((state(voter), pile.letters()), before)

    def test_each_ballot_is_promised_in_one_letter_at_most(self):
        for row in all_rows():
            ballots = [letter[1] for letter in written_in(row) if letter[0] == "promise"]
            self.assertEqual(ballots, sorted(set(ballots)))

    def test_other_numbers_of_voters_change_nothing(self):
        for row in long_rows():
            for number in range(7):
                self.assertEqual(state(voter_after(row, number)), state(voter_after(row)))
                alike = tuple(letter[:2] + (number,) + letter[3:] for letter in written_in(row))
                self.assertEqual(written_in(row, number), alike)


if __name__ == "__main__":
    unittest.main()
