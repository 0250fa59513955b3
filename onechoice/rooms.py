"""A room: its askers and its voters, the letters that they write, and how these come."""

from onechoice.askers import Asker, owner
from onechoice.counting import chosen_pairs, chosen_wish, voters_in
from onechoice.errors import NoAsker, NoVoter
from onechoice.letters import ASK, PREPARE, PROMISE, VOTE, Pile
from onechoice.voters import Voter


class Room:
    def __init__(self, wishes, many):
        self.many = many
        self.pile = Pile()
        self.askers = [Asker(number, len(wishes), wish, many) for number, wish in enumerate(wishes)]
        self.voters = [Voter(number) for number in range(many)]

    def letters(self):
        return self.pile.letters()

    def begin(self, asker, least):
        letter = self.asker_at(asker).begin(least)
        self.pile.write(letter)
        return letter[1]

    def fall(self, asker):
        self.asker_at(asker).fall()

    # All is looked up ahead of what is done, so that what is refused changes nothing; the
    # voter is to be there even if the letter does not come to it.
    def bring(self, k, voter):
        letter = self.pile.letter_at(k)
        self.come(letter, self.voter_at(voter))

    def promised(self, voter):
        return self.voter_at(voter).promised()

    def voted(self, voter):
        return self.voter_at(voter).voted()

    def ballot_of(self, asker):
        return self.asker_at(asker).ballot

    # Whose ballot it is need not be known: nobody else asks in it.
    def backers(self, ballot):
        for asker in self.askers:
            if asker.backers(ballot) is not None:
                return asker.backers(ballot)
        return None

    def votes(self, ballot):
        return voters_in(self.pile.letters(), ballot)

    def chosen(self):
        return chosen_pairs(self.pile.letters(), self.many)

    def choice(self):
        return chosen_wish(self.chosen())

    # Promises are in the order of voters here, as the prepare came to them in that order.
    def calm(self, asker):
        ballot = self.begin(asker, self.pile.beyond())
        self.come_to_all(self.pile.letters_of(PREPARE, ballot))
        for letter in self.pile.letters_of(PROMISE, ballot):
            self.come(letter, None)
        self.come_to_all(self.pile.letters_of(ASK, ballot))

    def come_to_all(self, letters):
        for letter in letters:
            for voter in self.voters:
                self.come(letter, voter)

    # The voter is the one to whom the letter comes if it is one for voters.
    def come(self, letter, voter):
        answer = None
        if letter[0] == PROMISE:
            answer = self.askers[owner(letter[1], len(self.askers))].hear(letter)
        elif letter[0] != VOTE:
            answer = voter.hear(letter)
        if answer is not None:
            self.pile.write(answer)

    # Refusals leave out the number: Python does not write out all whole numbers.
    def asker_at(self, asker):
        if asker < 0 or asker >= len(self.askers):
            raise NoAsker("there is no such asker")
        return self.askers[asker]

    def voter_at(self, voter):
        if voter < 0 or voter >= len(self.voters):
            raise NoVoter("there is no such voter")
        return self.voters[voter]
