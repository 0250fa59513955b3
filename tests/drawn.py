"""What several tests share: acts by letter, all that a room tells, and rows of drawn acts."""

import random

from onechoice.rooms import Room

LARGE = 10**40
# Beyond the whole numbers that Python writes out as a text.
HUGE = 1 << 40000
WISHES = (-LARGE, -3, -1, 0, 1, 2, LARGE)


# A letter comes, by itself and not by its number.
def bring(room, letter, voter=0):
    return room.bring(room.letters().index(letter), voter)


def letters_of(room, kind, ballot):
    return tuple(letter for letter in room.letters() if letter[:2] == (kind, ballot))


def ask_of(room, ballot):
    asks = letters_of(room, "ask", ballot)
    return asks[0] if asks else None


# The prepare of a ballot comes to these voters, and their promises come.
def gather(room, ballot, voters):
    for voter in voters:
        bring(room, ("prepare", ballot), voter)
    for voter in voters:
        for letter in letters_of(room, "promise", ballot):
            if letter[2] == voter:
                bring(room, letter)


# The ask of a ballot comes to these voters.
def spread(room, ballot, voters):
    for voter in voters:
        bring(room, ask_of(room, ballot), voter)


# What [4.2] says of calm, act by act.
def calm_by_hand(room, asker, many):
    ballots = [letter[1] for letter in room.letters()]
    ballot = room.begin(asker, max(ballots) + 1 if ballots else 0)
    gather(room, ballot, range(many))
    if ask_of(room, ballot) is not None:
        spread(room, ballot, range(many))
    return ballot


def more_than_half(many):
    return many // 2 + 1


# The ballots to ask a room of: all that it speaks of, and those beside them.
def ballots_near(letters):
    near = {-1, 0, 1, 2, 3, LARGE}
    for letter in letters:
        near.update((letter[1] - 1, letter[1], letter[1] + 1))
    return sorted(near)


# All that can be asked of a room.
def all_told(room, askers, many):
    letters = room.letters()
    ballots = ballots_near(letters)
    return (
        letters,
        tuple(room.ballot_of(asker) for asker in range(askers)),
        tuple((room.promised(voter), room.voted(voter)) for voter in range(many)),
        tuple((ballot, room.backers(ballot), room.votes(ballot)) for ballot in ballots),
        room.chosen(),
        room.choice(),
    )


# The same less the order in which the letters were written.
def all_told_in_no_order(room, askers, many):
    told = all_told(room, askers, many)
    return (frozenset(told[0]),) + told[1:]


def do(room, act):
    if act[0] == "bring":
        return bring(room, act[1], act[2])
    return getattr(room, act[0])(*act[1:])


def room_after(wishes, many, acts):
    room = Room(wishes, many)
    for act in acts:
        do(room, act)
    return room


# A room under drawn acts. Some letters never come to some voters or askers, the others
# come late, in any order, and many times; every number of askers and voters turns up.
class Play:
    def __init__(self, seed, calms=False):
        self.source = random.Random(seed)
        self.askers = 1 + seed % 4
        self.many = 1 + seed % 7
        self.wishes = tuple(self.source.sample(WISHES, self.askers))
        if seed % 5 == 0:
            self.wishes = (self.wishes[0],) * self.askers
        self.calms = calms
        # Prepares and asks that get lost or come late leave votes of few, which is where
        # unlike wishes meet.
        self.loss = {
            "prepare": self.source.choice((0, 0.2, 0.4)),
            "promise": self.source.choice((0, 0.05)),
            "ask": self.source.choice((0, 0.4, 0.7)),
            "vote": 0,
        }
        self.slow = self.source.choice((0, 0.6))
        self.pace = 1 / (self.many * self.source.choice((4, 8, 16)))
        self.lost = {}
        self.came = {}
        self.room = self.new_room()
        self.acts = []

    def new_room(self):
        return Room(self.wishes, self.many)

    def told(self):
        return all_told(self.room, self.askers, self.many)

    def draw_least(self):
        ballots = [letter[1] for letter in self.room.letters()]
        greatest = max(ballots, default=0)
        drawn = self.source.random()
        if drawn < 0.6:
            return greatest + self.source.randrange(3)
        if drawn < 0.63:
            return greatest + self.source.choice((50, LARGE))
        return self.source.randrange(greatest + 1) if drawn < 0.8 else 0

    # A letter to somebody, or None if there is none: it is lost on this way for ever, or
    # it does not come just now.
    def draw_coming(self):
        letters = self.room.letters()
        recent = self.source.random() < 0.8
        letter = self.source.choice(letters[-3 * self.many:] if recent else letters)
        voter = self.source.randrange(self.many)
        way = (letter, voter if letter[0] in ("prepare", "ask") else None)
        if self.lost.setdefault(way, self.source.random() < self.loss[letter[0]]):
            return None
        wait = 0.8 if way in self.came else self.slow if letter[0] == "ask" else 0
        if self.source.random() < wait:
            return None
        self.came[way] = True
        return ("bring", letter, voter)

    def draw(self):
        asker = self.source.randrange(self.askers)
        drawn = self.source.random()
        if drawn < self.pace or len(self.acts) < self.askers:
            return ("begin", asker, self.draw_least())
        if drawn < self.pace * 1.2:
            return ("fall", asker)
        if self.calms and drawn < self.pace * 1.3:
            return ("calm", asker)
        return self.draw_coming()

    # Yields each act behind which the room now stands, and what was told for it.
    def run(self, length):
        while len(self.acts) < length:
            act = self.draw()
            if act is not None:
                told = do(self.room, act)
                self.acts.append(act)
                yield act, told

    def run_through(self, length):
        for step in self.run(length):
            pass
        return self


def plays(how_many, length, calms=False):
    for seed in range(how_many):
        yield Play(seed, calms).run_through(length)
