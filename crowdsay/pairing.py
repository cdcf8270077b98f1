"""Pairs of kinds, one of each of two customs (by their places): what folk of both customs at once become."""

from crowdsay.building import closed
from crowdsay.twos import rising


def _ends_by(custom):
    return {step[:2]: step[2:] for step in custom.steps}


def pair_meeting(custom, other):
    """Tell a function that tells of two pairs what they become where they meet, in both customs at once."""
    left_ends = _ends_by(custom)
    right_ends = _ends_by(other)

    def meet(one, two):
        first, second = rising(one, two)
        lefts = rising(first[0], second[0])
        rights = rising(first[1], second[1])
        if lefts not in left_ends and rights not in right_ends:
            return one, two
        # The first pair always goes on with the first kinds: so fewest pairs come, since who leads in the one
        # custom leads in the other one, too.
        left = left_ends.get(lefts, lefts)
        right = right_ends.get(rights, rights)
        return (left[0], right[0]), (left[1], right[1])

    return meet


def gate_pairs(custom, other):
    """Tell for each gate, in order, the pair of which one is who comes by it in both customs."""
    lefts = [custom.kinds.index(kind) for _, kind in custom.gates]
    rights = [other.kinds.index(kind) for _, kind in other.gates]
    return list(zip(lefts, rights))


def pairs_that_come(custom, other):
    """Tell, rising, the pairs that ever come by the gates; TooMany, where they are more than a custom has kinds."""
    meet = pair_meeting(custom, other)
    seeds = gate_pairs(custom, other)
    pairs = closed(seeds, meet)
    if len(pairs) == 1:
        # A custom has two kinds at least, so one more pair stands beside it.
        pairs = closed([*seeds, (0, 1) if pairs == [(0, 0)] else (0, 0)], meet)
    return pairs
