"""Customs built of things that meet: tuples, whatever they are, that stand for kinds."""

from crowdsay.customs import MOST_KINDS, Custom
from crowdsay.errors import TooMany

_LETTERS = "abcdefghijklmnopqrstuvwxyz"


def closed(things, meet):
    """Tell the things and all that they become where two of them meet, or become then, rising.

    meet tells of two things what they become; TooMany, where there are more than a custom has kinds."""
    found = list({thing: True for thing in things})
    known = {thing: True for thing in found}
    met = 0
    while met < len(found):
        one = found[met]
        others = found[:met + 1]
        for other in others:
            for come in meet(one, other):
                if come not in known:
                    known[come] = True
                    found.append(come)
        met += 1
        if len(found) > MOST_KINDS:
            raise TooMany(MOST_KINDS)
    return sorted(found)


def _word_of(place):
    high, low = divmod(place, len(_LETTERS))
    return _LETTERS[low] if high == 0 else _LETTERS[high - 1] + _LETTERS[low]


def custom_of(things, meet, gates, yes):
    """Tell the custom whose kinds are these things, rising; gates are pairs (word, thing), yes says which say yes."""
    words = {thing: _word_of(place) for place, thing in enumerate(things)}
    rows = []
    for place, one in enumerate(things):
        for other in things[place:]:
            first, second = sorted(meet(one, other))
            if (first, second) != (one, other):
                rows.append((words[one], words[other], words[first], words[second]))
    return Custom(
        tuple([words[thing] for thing in things]),
        tuple(rows),
        tuple([(word, words[thing]) for word, thing in gates]),
        yes=tuple([words[thing] for thing, is_yes in zip(things, yes) if is_yes]),
        most=MOST_KINDS,
    )
