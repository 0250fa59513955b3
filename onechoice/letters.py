"""The four letters, and the pile in which every letter that was written stays."""

PREPARE = "prepare"
PROMISE = "promise"
ASK = "ask"
VOTE = "vote"


def prepare(ballot):
    return (PREPARE, ballot)


# last is the voter's last vote, a pair (ballot, wish), or None.
def promise(ballot, voter, last):
    return (PROMISE, ballot, voter, last)


def ask(ballot, wish):
    return (ASK, ballot, wish)


def vote(ballot, voter, wish):
    return (VOTE, ballot, voter, wish)


class Pile:
    def __init__(self):
        self.written = {}

    # A key that comes again keeps its place, so a letter written again is the same letter.
    def write(self, letter):
        self.written[letter] = True

    def letters(self):
        return tuple(self.written)
