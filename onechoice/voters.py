"""A voter: what it promised, its last vote, and what it writes as a letter comes to it."""

from onechoice.letters import ASK, PREPARE, promise, vote


class Voter:
    def __init__(self, number):
        self.number = number
        self.bound = None
        self.last = None

    # The greatest ballot that it promised, None if there is none.
    def promised(self):
        return self.bound

    # Its last vote, a pair (ballot, wish), None if it gave none.
    def voted(self):
        return self.last

    # Tells the letter that it writes, None if it writes none. Promises and votes
    # are not for voters, so they do nothing here.
    def hear(self, letter):
        if letter[0] == PREPARE:
            return self.hear_prepare(letter[1])
        if letter[0] == ASK:
            return self.hear_ask(letter[1], letter[2])
        return None

    # The same ballot once more does nothing: its last vote may be another by now, and
    # a second, unlike promise of one ballot would be written.
    def hear_prepare(self, ballot):
        if self.bound is not None and self.bound >= ballot:
            return None
        self.bound = ballot
        return promise(ballot, self.number, self.last)

    # The same ballot is let through: its promise was given for this very ask.
    def hear_ask(self, ballot, wish):
        if self.bound is not None and self.bound > ballot:
            return None
        self.bound = ballot
        self.last = (ballot, wish)
        return vote(ballot, self.number, wish)
