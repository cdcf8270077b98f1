"""Customs turned, so that no is yes, and two customs joined to one."""

from crowdsay.building import custom_of
from crowdsay.customs import Custom, says_yes
from crowdsay.pairing import gate_pairs, pair_meeting, pairs_that_come


def turned(custom):
    """Tell the custom with all that said no as yes."""
    yes = tuple([kind for kind in custom.kinds if not says_yes(custom, kind)])
    return Custom(custom.kinds, custom.rows, custom.gates, yes=yes, most=len(custom))


def _says_joined(custom, other, pair, word):
    left = says_yes(custom, custom.kinds[pair[0]])
    right = says_yes(other, other.kinds[pair[1]])
    return left and right if word == "and" else left or right


def joined(custom, other, *, word="and"):
    """Tell a custom, with the first one's gates' words, by which each crowd says what it says by both, joined."""
    pairs = pairs_that_come(custom, other)
    words = [gate for gate, _ in custom.gates]
    gates = list(zip(words, gate_pairs(custom, other)))
    yes = [_says_joined(custom, other, pair, word) for pair in pairs]
    return custom_of(pairs, pair_meeting(custom, other), gates, yes)
