"""The four letters, and the pile in which every letter that was written stays."""

from onechoice.errors import NoLetter

PREPARE = "prepare"
PROMISE = "promise"
ASK = "ask"
VOTE = "vote"


def prepare(ballot):
    return (PREPARE, ballot)


# last is the voter's last vote, a pair (ballot, wish), or None.
def promise(ballot, voter, last):
    return (PROMISE, ballot, voter, last)


def ask(ballot, wish):
    return (ASK, ballot, wish)


def vote(ballot, voter, wish):
    return (VOTE, ballot, voter, wish)


class Pile:
    # The row keeps the order and finds letter k at once, the dict finds out at once
    # whether a letter was written.
    def __init__(self):
        self.row = []
        self.written = {}

    # A letter written again is the same letter, and keeps its place.
    def write(self, letter):
        if letter in self.written:
            return
        self.written[letter] = True
        self.row.append(letter)

    def letters(self):
        return tuple(self.row)

    # A number below 0 would count from the end, but there is no such letter. The number
    # stands in no refusal's words: Python does not write out all whole numbers.
    def letter_at(self, k):
        if k < 0 or k >= len(self.row):
            raise NoLetter("there is no such letter")
        return self.row[k]

    # The letters of one kind and one ballot, in the order in which they were written.
    def letters_of(self, kind, ballot):
        return [letter for letter in self.row if letter[0] == kind and letter[1] == ballot]

    # The least number from 0 on that is greater than all ballots in letters. The ballot of
    # a last vote needs no look: it is lesser than that of the promise in which it stands.
    def beyond(self):
        return max([letter[1] + 1 for letter in self.row], default=0)
