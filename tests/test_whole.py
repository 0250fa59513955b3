"""What holds whatever is done, in whatever order: [0.2] (a) to (f), [0.3] and [0.5]."""

import copy
import itertools
import random
import unittest

from drawn import (
    Play, all_told, all_told_in_no_order, ask_of, bring, calm_by_hand, do, gather, letters_of, more_than_half, plays,
    room_after, spread,
)
from onechoice.rooms import Room


def of_kind(letters, kind):
    return [letter for letter in letters if letter[0] == kind]


# Only what [0.3] names, in all depths; True and False are of another kind than int.
def is_plain(value):
    if isinstance(value, tuple):
        return type(value) is tuple and all(is_plain(part) for part in value)
    return value is None or type(value) in (int, str)


# What came, act by act, kept beside the room, and what must be told by that.
class History:
    def __init__(self, askers, many):
        self.askers = askers
        self.many = many
        self.came = [[] for voter in range(many)]
        self.ballots = [None] * askers
        self.promises = {}

    def note(self, act, told):
        if act[0] == "begin":
            self.ballots[act[1]] = told
            self.promises[told] = []
        if act[0] == "fall":
            self.ballots[act[1]] = None
        if act[0] == "bring":
            self.note_letter(act[1], act[2])

    def note_letter(self, letter, voter):
        if letter[0] in ("prepare", "ask"):
            self.came[voter].append(letter)
        if letter[0] == "promise" and letter[1] in self.ballots and letter[2] not in self.promises[letter[1]]:
            self.promises[letter[1]].append(letter[2])

    def promised(self, voter):
        return max([letter[1] for letter in self.came[voter]], default=None)

    # All votes of a voter: its asks with no greater ballot ahead of them.
    def votes(self, voter):
        greatest, votes = 0, []
        for letter in self.came[voter]:
            if letter[0] == "ask" and letter[1] >= greatest:
                votes.append(letter[1:])
            greatest = max(greatest, letter[1])
        return votes

    def backers(self, ballot):
        first = self.promises.get(ballot, [])[:more_than_half(self.many)]
        return tuple(sorted(first)) if len(first) == more_than_half(self.many) else None

    def chosen(self):
        given = [pair for voter in range(self.many) for pair in set(self.votes(voter))]
        return tuple(sorted({pair for pair in given if given.count(pair) >= more_than_half(self.many)}))


class Case(unittest.TestCase):
    # (a) but for "it stays chosen".
    def one_wish_is_chosen(self, room, wishes):
        chosen = {wish for ballot, wish in room.chosen()}
        self.assertLessEqual(len(chosen), 1)
        self.assertLessEqual(chosen, set(wishes))
        self.assertEqual({room.choice()} - {None}, chosen)

    # (b)
    def greater_asks_are_of_the_chosen_wish(self, room):
        for ballot, wish in room.chosen():
            for letter in of_kind(room.letters(), "ask"):
                if letter[1] > ballot:
                    self.assertEqual(letter[2], wish)

    # (c)
    def asks_are_backed(self, room, wishes, many):
        votes = of_kind(room.letters(), "vote")
        asks = of_kind(room.letters(), "ask")
        self.assertEqual(len(asks), len({letter[1] for letter in asks}))
        for kind, ballot, wish in asks:
            backers = room.backers(ballot)
            self.assertEqual(len(backers), more_than_half(many))
            self.assertEqual(backers, tuple(sorted(set(backers))))
            self.assertLess(backers[-1], many)
            before = [(letter[1], letter[3]) for letter in votes if letter[1] < ballot and letter[2] in backers]
            self.assertEqual(wish, max(before)[1] if before else wishes[ballot % len(wishes)])

    def all_holds(self, room, wishes, many):
        self.one_wish_is_chosen(room, wishes)
        self.greater_asks_are_of_the_chosen_wish(room)
        self.asks_are_backed(room, wishes, many)


class Reach(Case):
    # Else the tests over drawn rows would hold for want of anything in them.
    def test_the_drawn_rows_come_to_all_that_matters(self):
        seen = {"chosen": 0, "several": 0, "unlike asks": 0, "unlike votes": 0, "none": 0, "led": 0, "every size": set()}
        for play in plays(700, 150):
            letters = play.room.letters()
            asks = of_kind(letters, "ask")
            seen["chosen"] += len(play.room.chosen()) > 0
            seen["none"] += len(play.room.chosen()) == 0
            seen["several"] += len(play.room.chosen()) > 1
            seen["unlike asks"] += len({letter[2] for letter in asks}) > 1
            seen["unlike votes"] += len({letter[3] for letter in of_kind(letters, "vote")}) > 1
            seen["led"] += any(letter[2] != play.wishes[letter[1] % play.askers] for letter in asks)
            seen["every size"].add((play.askers, play.many))
        for name, least in (("chosen", 200), ("several", 100), ("unlike asks", 100), ("unlike votes", 10),
                            ("none", 100), ("led", 100)):
            self.assertGreater(seen[name], least, name)
        self.assertEqual(seen["every size"], set(itertools.product(range(1, 5), range(1, 8))))


class Drawn(Case):
    def test_one_wish_is_chosen_and_asks_are_backed(self):
        for calms in (False, True):
            for play in plays(1400, 150, calms):
                self.all_holds(play.room, play.wishes, play.many)

    def test_at_every_step_of_long_rows(self):
        for seed in range(28):
            play = Play(seed, calms=True)
            for step in play.run(600):
                self.all_holds(play.room, play.wishes, play.many)

    def test_what_is_chosen_stays_and_letters_stay(self):
        for seed in range(280):
            play = Play(seed, calms=True)
            chosen, letters = (), ()
            for step in play.run(200):
                self.assertLessEqual(set(chosen), set(play.room.chosen()))
                self.assertEqual(play.room.letters()[:len(letters)], letters)
                self.assertEqual(len(set(play.room.letters())), len(play.room.letters()))
                chosen, letters = play.room.chosen(), play.room.letters()

    def test_promises_and_ballots_of_votes_never_fall(self):
        for seed in range(280):
            play = Play(seed, calms=True)
            before = [(-1, -1)] * play.many
            for step in play.run(200):
                for voter in range(play.many):
                    promised, voted = play.room.promised(voter), play.room.voted(voter)
                    now = (-1 if promised is None else promised, -1 if voted is None else voted[0])
                    self.assertGreaterEqual(now[0], before[voter][0])
                    self.assertGreaterEqual(now[1], before[voter][1])
                    before[voter] = now

    def test_each_act_writes_one_letter_at_most(self):
        for seed in range(140):
            play = Play(seed)
            many = 0
            for act, told in play.run(200):
                new = play.room.letters()[many:]
                if act[0] == "begin":
                    self.assertEqual(new, (("prepare", told),))
                else:
                    self.assertIsNone(told)
                    self.assertLessEqual(len(new), 1 if act[0] == "bring" else 0)
                many += len(new)

    def test_all_is_told_as_what_came_asks_for(self):
        for seed in range(140):
            play = Play(seed)
            history = History(play.askers, play.many)
            for act, told in play.run(200):
                history.note(act, told)
                self.told_by(history, play.room)

    def told_by(self, history, room):
        self.assertEqual([room.ballot_of(asker) for asker in range(history.askers)], history.ballots)
        for voter in range(history.many):
            votes = history.votes(voter)
            self.assertEqual(room.promised(voter), history.promised(voter))
            self.assertEqual(room.voted(voter), votes[-1] if votes else None)
        for ballot in history.promises:
            self.assertEqual(room.backers(ballot), history.backers(ballot))
            self.assertEqual(ask_of(room, ballot) is not None, history.backers(ballot) is not None)
        self.assertEqual(room.chosen(), history.chosen())
        for ballot in history.promises:
            voted = [voter for voter in range(history.many) if ballot in dict(history.votes(voter))]
            self.assertEqual(room.votes(ballot), tuple(voted))


class Anew(Case):
    # (d) by calm: the choice that was before stays, else there is one now.
    def test_calm_brings_a_choice_whatever_was_before(self):
        for play in plays(280, 150):
            for asker in range(play.askers):
                room = room_after(play.wishes, play.many, play.acts)
                before = room.choice()
                room.calm(asker)
                self.assertIsNotNone(room.choice())
                self.assertIn((room.ballot_of(asker), room.choice()), room.chosen())
                if before is not None:
                    self.assertEqual(room.choice(), before)
                self.all_holds(room, play.wishes, play.many)

    # (d) with letters that come to just more than half, others to the prepare than to the ask.
    def test_more_than_half_are_enough(self):
        for play in plays(140, 150):
            asker = play.source.randrange(play.askers)
            room = play.room
            ballot = room.begin(asker, max(letter[1] for letter in room.letters()) + 1)
            gather(room, ballot, play.source.sample(range(play.many), more_than_half(play.many)))
            spread(room, ballot, play.source.sample(range(play.many), more_than_half(play.many)))
            self.assertEqual(room.chosen()[-1], (ballot, ask_of(room, ballot)[2]))
            self.all_holds(room, play.wishes, play.many)

    # A calm room stays at its choice as every letter comes to everybody once more.
    def test_late_letters_behind_a_calm_leave_the_choice(self):
        for play in plays(140, 100):
            calm_by_hand(play.room, 0, play.many)
            choice = play.room.choice()
            ways = list(itertools.product(play.room.letters(), range(play.many)))
            play.source.shuffle(ways)
            for letter, voter in ways:
                bring(play.room, letter, voter)
            self.assertEqual(play.room.choice(), choice)
            self.all_holds(play.room, play.wishes, play.many)


class OnceMore(Case):
    # (e) for the letters that come in a row, each at once and all at its end.
    def test_a_letter_that_comes_once_more_changes_nothing(self):
        for seed in range(140):
            play = Play(seed)
            for act, told in play.run(60):
                if act[0] == "bring":
                    before = play.told()
                    self.assertIsNone(do(play.room, act))
                    self.assertEqual(play.told(), before)
            before = play.told()
            for act in play.acts:
                if act[0] == "bring":
                    do(play.room, act)
            self.assertEqual(play.told(), before)

    # Not only what is told is the same, but also all that comes of later acts.
    def test_a_room_in_which_letters_come_again_goes_on_like_one_without(self):
        for seed in range(140):
            play = Play(seed, calms=True)
            again = play.new_room()
            source = random.Random(seed)
            came = []
            for act, told in play.run(200):
                self.assertEqual(do(again, act), told)
                if act[0] == "bring":
                    came.append(act)
                for repeat in range(2 if came else 0):
                    do(again, source.choice(came))
            self.assertEqual(all_told(again, play.askers, play.many), play.told())


class EitherOrder(Case):
    # (e) for neighbours in a row: both rows come to the same, then and at the end.
    def test_letters_to_unlike_voters_come_in_either_order(self):
        swapped = 0
        for seed in range(280):
            play = Play(seed).run_through(120)
            for place in range(len(play.acts) - 1):
                one, other = play.acts[place], play.acts[place + 1]
                if place % 10 == seed % 10 and self.may_swap(play, place, one, other):
                    swapped += 1
                    self.swap(play, place)
        self.assertGreater(swapped, 200)

    # Both are for voters, unlike ones, and the second was written ahead of the first's coming.
    def may_swap(self, play, place, one, other):
        if one[0] != "bring" or other[0] != "bring" or one[2] == other[2]:
            return False
        if one[1][0] not in ("prepare", "ask") or other[1][0] not in ("prepare", "ask"):
            return False
        return other[1] in room_after(play.wishes, play.many, play.acts[:place]).letters()

    def swap(self, play, place):
        acts = play.acts[:place] + [play.acts[place + 1], play.acts[place]]
        room = room_after(play.wishes, play.many, acts)
        as_drawn = room_after(play.wishes, play.many, play.acts[:place + 2])
        self.assertEqual(all_told_in_no_order(room, play.askers, play.many),
                         all_told_in_no_order(as_drawn, play.askers, play.many))
        for act in play.acts[place + 2:]:
            do(room, act)
        self.assertEqual(all_told_in_no_order(room, play.askers, play.many),
                         all_told_in_no_order(play.room, play.askers, play.many))


class OtherNumbers(Case):
    def renumbered(self, letter, numbers):
        return letter[:2] + (numbers[letter[2]],) + letter[3:] if letter[0] in ("promise", "vote") else letter

    def renumbered_tuple(self, voters, numbers):
        return None if voters is None else tuple(sorted(numbers[voter] for voter in voters))

    # (f) with all voters numbered otherwise.
    def test_other_numbers_of_voters_change_nothing(self):
        for play in plays(280, 120):
            numbers = list(range(play.many))
            play.source.shuffle(numbers)
            other = play.new_room()
            for act in play.acts:
                if act[0] == "bring":
                    act = ("bring", self.renumbered(act[1], numbers), numbers[act[2]])
                do(other, act)
            self.alike(play, other, numbers)

    def alike(self, play, other, numbers):
        room = play.room
        self.assertEqual(other.letters(), tuple(self.renumbered(letter, numbers) for letter in room.letters()))
        for voter in range(play.many):
            self.assertEqual(other.promised(numbers[voter]), room.promised(voter))
            self.assertEqual(other.voted(numbers[voter]), room.voted(voter))
        for ballot in {letter[1] for letter in room.letters()}:
            self.assertEqual(other.backers(ballot), self.renumbered_tuple(room.backers(ballot), numbers))
            self.assertEqual(other.votes(ballot), self.renumbered_tuple(room.votes(ballot), numbers))
        self.assertEqual((other.chosen(), other.choice()), (room.chosen(), room.choice()))

    # To whom promises and votes come does not hang on the voter that is told.
    def test_the_voter_told_with_a_promise_or_a_vote_does_not_matter(self):
        for play in plays(140, 120):
            other = play.new_room()
            for act in play.acts:
                if act[0] == "bring" and act[1][0] in ("promise", "vote"):
                    act = act[:2] + (play.many - 1 - act[2],)
                do(other, act)
            self.assertEqual(all_told(other, play.askers, play.many), play.told())


class Told(Case):
    def test_kinds(self):
        for seed in range(56):
            play = Play(seed, calms=True)
            for act, told in play.run(60):
                self.assertTrue(is_plain(told))
                self.assertTrue(is_plain(play.told()))

    def test_asked_again_the_same_is_told(self):
        for play in plays(56, 120, calms=True):
            self.assertEqual(play.told(), play.told())

    # Not only what is told is the same, but also all that comes of later acts.
    def test_asking_changes_nothing(self):
        for seed in range(56):
            play = Play(seed, calms=True)
            quiet = play.new_room()
            for act, told in play.run(80):
                play.told()
                self.assertEqual(do(quiet, act), told)
            self.assertEqual(all_told(quiet, play.askers, play.many), play.told())

    def test_what_was_told_does_not_change_with_later_acts(self):
        for seed in range(28):
            play = Play(seed, calms=True).run_through(40)
            told = play.told()
            kept = copy.deepcopy(told)
            play.run_through(120)
            self.assertEqual(told, kept)

    def test_the_same_acts_come_to_the_same(self):
        for play in plays(56, 150, calms=True):
            again = room_after(play.wishes, play.many, play.acts)
            self.assertEqual(all_told(again, play.askers, play.many), play.told())


# Everything that can come of two begins, whatever comes to whom and in which order. A letter
# that is known to do nothing is not followed: the drawn rows have those.
class Everything(Case):
    def explore(self, wishes, many):
        room = Room(wishes, many)
        for asker in range(2):
            room.begin(asker, 0)
        todo, seen, chosen = [(room, frozenset())], set(), set()
        while todo:
            room, noted = todo.pop()
            state = (all_told_in_no_order(room, 2, many), noted)
            if state not in seen:
                seen.add(state)
                chosen.add(room.choice())
                self.all_holds(room, wishes, many)
                todo.extend(self.behind(room, noted, many))
        return chosen

    def behind(self, room, noted, many):
        for k, letter in enumerate(room.letters()):
            if letter[0] == "promise" and letter not in noted and room.backers(letter[1]) is None:
                yield self.brought(room, k, 0), noted | {letter}
            for voter in range(many):
                if self.is_open(room, letter, voter):
                    yield self.brought(room, k, voter), noted

    def is_open(self, room, letter, voter):
        promised, voted = room.promised(voter), room.voted(voter)
        if letter[0] == "prepare":
            return promised is None or promised < letter[1]
        return letter[0] == "ask" and voted != letter[1:] and (promised is None or promised <= letter[1])

    def brought(self, room, k, voter):
        room = copy.deepcopy(room)
        room.bring(k, voter)
        return room

    def test_one_two_and_three_voters(self):
        for many in (1, 2, 3):
            self.assertEqual(self.explore((5, -5), many), {None, 5, -5})


class Letters(Case):
    # [0.5], and that last votes were given, and that votes are for what was asked.
    def test_each_has_its_form(self):
        for play in plays(140, 150, calms=True):
            for letter in play.room.letters():
                self.assertIn((letter[0], len(letter)), (("prepare", 2), ("promise", 4), ("ask", 3), ("vote", 4)))
                if letter[0] == "promise" and letter[3] is not None:
                    self.assertIn(("vote", letter[3][0], letter[2], letter[3][1]), play.room.letters())
                    self.assertLess(letter[3][0], letter[1])
                if letter[0] == "vote":
                    self.assertEqual(letters_of(play.room, "ask", letter[1]), (("ask", letter[1], letter[3]),))


if __name__ == "__main__":
    unittest.main()
