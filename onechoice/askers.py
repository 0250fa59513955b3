"""An asker: its ballots, what it noted, and what it writes as a promise comes to it."""

from onechoice.counting import more_than_half
from onechoice.letters import ask, prepare


# The number of the asker to whom the ballot belongs.
def owner(ballot, askers):
    return ballot % askers


# The least ballot of the asker's own that is at least the number told. Its first ballot is
# its own number, so nothing below that is a ballot of its own, however low the number is.
def own_ballot(number, askers, least):
    floor = max(least, number)
    return floor + (number - floor) % askers


class Asker:
    def __init__(self, number, askers, wish, many):
        self.number = number
        self.step = askers
        self.wish = wish
        self.many = many
        self.ballot = None
        # The least number that is greater than all ballots that it had; a fall leaves it.
        self.fresh = 0
        # For each voter whose promise of the ballot was noted, its last vote.
        self.noted = {}
        # For each ballot in which it asked, the voters whose promises were noted then.
        self.asked = {}

    # Tells the prepare that it writes.
    def begin(self, least):
        self.ballot = own_ballot(self.number, self.step, max(least, self.fresh))
        self.fresh = self.ballot + 1
        self.noted = {}
        return prepare(self.ballot)

    def fall(self):
        self.ballot = None

    # A rising tuple of the voters whose promises were noted as it asked in the ballot,
    # None if it did not.
    def backers(self, ballot):
        return self.asked.get(ballot)

    # A promise comes. Tells the ask that it writes, None if it writes none.
    def hear(self, letter):
        if letter[1] != self.ballot or letter[1] in self.asked:
            return None
        self.noted[letter[2]] = letter[3]
        if not more_than_half(len(self.noted), self.many):
            return None
        self.asked[self.ballot] = tuple(sorted(self.noted))
        return ask(self.ballot, self.wish_to_ask())

    # Two last votes in one ballot have the same wish, so the greatest pair is the one
    # with the greatest ballot.
    def wish_to_ask(self):
        lasts = [last for last in self.noted.values() if last is not None]
        if len(lasts) == 0:
            return self.wish
        return max(lasts)[1]
