"""What the votes that were written come to."""

from onechoice.letters import VOTE


def more_than_half(some, many):
    return 2 * some > many


# A rising tuple of the voters who have voted in the ballot. A ballot has one wish alone,
# so no voter stands here twice.
def voters_in(letters, ballot):
    return tuple(sorted([letter[2] for letter in letters if letter[0] == VOTE and letter[1] == ballot]))


# A rising tuple of all pairs (ballot, wish) for which more than half of the voters have
# voted. Votes are counted by letter, for each was written once; what a voter's last vote
# is by now does not matter, as what was chosen stays chosen.
def chosen_pairs(letters, many):
    counts = {}
    for letter in letters:
        if letter[0] == VOTE:
            pair = (letter[1], letter[3])
            counts[pair] = counts.get(pair, 0) + 1
    return tuple(sorted([pair for pair in counts if more_than_half(counts[pair], many)]))


# The wish of the chosen pairs, None if there are none. They all have the same.
def chosen_wish(pairs):
    if len(pairs) == 0:
        return None
    return pairs[0][1]
