import itertools
import unittest

from onechoice.errors import NoLetter
from onechoice.letters import Pile, ask, prepare, promise, vote

WISHES = (-10**40, -2, -1, 0, 1, 7, 10**40)


def pile_of(letters):
    pile = Pile()
    for letter in letters:
        pile.write(letter)
    return pile


class Forms(unittest.TestCase):
    def told_as(self, letter, form):
        self.assertIs(type(letter), tuple)
        self.assertEqual(letter, form)

    def test_prepare(self):
        for ballot in (0, 1, 10**30):
            self.told_as(prepare(ballot), ("prepare", ballot))

    def test_promise_without_a_last_vote(self):
        self.told_as(promise(0, 0, None), ("promise", 0, 0, None))
        self.told_as(promise(5, 6, None), ("promise", 5, 6, None))

    def test_promise_with_a_last_vote(self):
        for wish in WISHES:
            self.told_as(promise(5, 2, (0, wish)), ("promise", 5, 2, (0, wish)))

    def test_ask(self):
        for wish in WISHES:
            self.told_as(ask(0, wish), ("ask", 0, wish))
            self.told_as(ask(9, wish), ("ask", 9, wish))

    def test_vote(self):
        for wish in WISHES:
            self.told_as(vote(0, 6, wish), ("vote", 0, 6, wish))
            self.told_as(vote(9, 0, wish), ("vote", 9, 0, wish))

    def test_equal_where_their_parts_are(self):
        self.assertEqual(promise(3, 1, (2, -4)), promise(3, 1, (2, -4)))
        self.assertNotEqual(promise(3, 1, (2, -4)), promise(3, 1, (2, 4)))
        self.assertNotEqual(promise(3, 1, (2, -4)), promise(3, 1, None))
        self.assertNotEqual(ask(3, 1), vote(3, 1, 1))

    def test_the_last_vote_that_is_handed_in_is_not_changed(self):
        last = (2, -4)
        promise(3, 1, last)
        self.assertEqual(last, (2, -4))


class Piles(unittest.TestCase):
    def test_no_letter_is_written(self):
        self.assertEqual(Pile().letters(), ())
        self.assertIs(type(Pile().letters()), tuple)

    def test_letters_stay_as_they_were_written(self):
        letters = (prepare(0), promise(0, 1, None), ask(0, -3), vote(0, 1, -3), promise(4, 1, (0, -3)))
        told = pile_of(letters).letters()
        self.assertIs(type(told), tuple)
        self.assertEqual(told, letters)
        for letter in told:
            self.assertIs(type(letter), tuple)

    def test_order_is_that_of_writing(self):
        letters = (prepare(9), prepare(0), vote(3, 1, 5), ask(3, 5))
        for row in itertools.permutations(letters):
            self.assertEqual(pile_of(row).letters(), row)

    def test_written_twice_stands_once_where_it_stood_first(self):
        row = (prepare(2), ask(2, 5), prepare(2), prepare(1), ask(2, 5), prepare(2))
        self.assertEqual(pile_of(row).letters(), (prepare(2), ask(2, 5), prepare(1)))

    def test_any_row_is_told_in_the_order_of_first_writing(self):
        choices = (prepare(0), promise(0, 0, None), promise(0, 0, (0, -1)), promise(0, 0, (0, -2)))
        for row in itertools.product(choices, repeat=5):
            firsts = [letter for k, letter in enumerate(row) if letter not in row[:k]]
            self.assertEqual(pile_of(row).letters(), tuple(firsts))

    def test_letters_unlike_in_one_part_are_unlike(self):
        letters = (
            prepare(1), prepare(2),
            promise(1, 0, None), promise(2, 0, None), promise(1, 1, None),
            promise(1, 0, (0, 0)), promise(1, 0, (1, 0)), promise(1, 0, (0, 1)),
            ask(1, 0), ask(2, 0), ask(1, -1), ask(1, -2),
            vote(1, 0, 0), vote(2, 0, 0), vote(1, 1, 0), vote(1, 0, 1),
        )
        self.assertEqual(pile_of(letters).letters(), letters)

    def test_asked_again_the_same_is_told(self):
        pile = pile_of((prepare(1), ask(1, 2)))
        self.assertEqual(pile.letters(), pile.letters())

    def test_what_was_told_does_not_change_with_later_letters(self):
        pile = pile_of((prepare(1),))
        told = pile.letters()
        pile.write(prepare(2))
        self.assertEqual(told, (prepare(1),))
        self.assertEqual(pile.letters(), (prepare(1), prepare(2)))

    def test_piles_share_nothing(self):
        one = pile_of((prepare(1),))
        other = pile_of((prepare(2),))
        self.assertEqual(one.letters(), (prepare(1),))
        self.assertEqual(other.letters(), (prepare(2),))

    def test_letter_at(self):
        row = (prepare(2), ask(2, 5), prepare(2), prepare(1))
        pile = pile_of(row)
        self.assertEqual([pile.letter_at(k) for k in range(3)], [prepare(2), ask(2, 5), prepare(1)])

    def test_no_letter_at(self):
        for k in (-10**40, -4, -3, -1, 3, 4, 10**40):
            with self.assertRaises(NoLetter):
                pile_of((prepare(2), ask(2, 5), prepare(1))).letter_at(k)
        for k in (-1, 0, 1):
            with self.assertRaises(NoLetter):
                Pile().letter_at(k)

    def test_letters_of_one_kind_and_ballot(self):
        pile = pile_of((promise(3, 2, None), promise(2, 2, None), ask(3, 1), promise(3, 0, (2, 1)), vote(3, 0, 1)))
        self.assertEqual(pile.letters_of("promise", 3), [promise(3, 2, None), promise(3, 0, (2, 1))])
        self.assertEqual(pile.letters_of("ask", 3), [ask(3, 1)])
        self.assertEqual(pile.letters_of("ask", 2), [])

    def test_beyond_all_ballots(self):
        self.assertEqual(Pile().beyond(), 0)
        self.assertEqual(pile_of((prepare(0),)).beyond(), 1)
        self.assertEqual(pile_of((prepare(5), prepare(9), prepare(3))).beyond(), 10)
        self.assertEqual(pile_of((prepare(5), prepare(10**40))).beyond(), 10**40 + 1)


if __name__ == "__main__":
    unittest.main()
