"""Sentences of two counts without their last: by lines on which any number behind the first count is that does."""

from math import gcd

from crowdsay.along import bits_along, leaves_of, period_of
from crowdsay.flags import form_of, joined_sets, shortest
from crowdsay.forms import any_of
from crowdsay.sums import worth_of

_BLOCK = 1024
_FARTHEST = 100000
_NOT_BELOW = ("least", (0, 1), 0)


def _add_ways(sentence, is_so, ways):
    if sentence[0] in ("least", "rest"):
        ways[(sentence, is_so)] = True
        return
    for part in sentence[1:]:
        _add_ways(part, is_so != (sentence[0] == "not"), ways)


def _lows(sentence):
    """Tell as (by, weight, more) where a last number y may begin to do: by times y is weight times n, and more."""
    ways = {}
    _add_ways(sentence, True, ways)
    lows = [(1, 0, 0)]
    for leaf, is_so in ways:
        if leaf[0] == "least":
            weight, by = leaf[1]
            if is_so and by > 0:
                lows.append((by, -weight, leaf[2]))
            if not is_so and by < 0:
                lows.append((-by, weight, 1 - leaf[2]))
    return lows


def _lines(lows, period):
    """Tell by direction (by, weight) the lines, each by its number more, on which there is a least y that does.

    A period below the least y that does is one that doesn't: between the two something begins."""
    lines = {}
    for by, weight, more in lows:
        part = gcd(by, weight)
        offs = lines.setdefault((by // part, weight // part), {})
        for off in range(-(-more // part), (more + by * period - 1) // part + 1):
            offs[off] = True
    return {direction: sorted(offs) for direction, offs in lines.items()}


def _starts(direction, offs):
    """Tell where each line begins: its first n, and y there."""
    by, weight = direction
    first_of = {-weight * first % by: first for first in range(by)}
    firsts = [(first_of[off % by], off) for off in offs]
    return [(first, (weight * first + off) // by) for first, off in firsts]


def _reach(leaves, direction, starts):
    """Tell so many steps that behind them no least changes any more on any of the lines."""
    far = max([abs(y) for _, y in starts])
    steps = [0]
    for leaf in leaves:
        rise = abs(worth_of(leaf[1], direction))
        if leaf[0] == "least" and rise != 0:
            most = abs(leaf[1][0]) * direction[0] + abs(leaf[1][1]) * far + abs(leaf[2])
            steps.append(most // rise + 1)
    return max(steps)


def _text_of(bits, many):
    # The lowest bit, of the first count, stands first.
    digits = f"{bits:b}"
    return digits[::-1].ljust(many, "0")


def _flags_of(sentence, direction, starts, many):
    # Block by block, so that no number gets very long; the n of lines that leave unlike rests by by are apart.
    by = direction[0]
    classes = [""] * by
    for begin in range(0, many, _BLOCK):
        length = min(_BLOCK, many - begin)
        bits = [0] * by
        for n, y in starts:
            start = (n + begin * direction[0], y + begin * direction[1])
            bits[n] |= bits_along(sentence, start, direction, length)
        classes = [text + _text_of(some, length) for text, some in zip(classes, bits)]
    return "".join([classes[n % by][n // by] for n in range(by * many)])


def _set_of(sentence, direction, offs):
    """Tell the set of all n of which some y on one of the lines does, or None where it would be too long."""
    leaves = leaves_of(sentence)
    starts = _starts(direction, offs)
    again = period_of(leaves, direction)
    many = _reach(leaves, direction, starts) + again
    if many * direction[0] > _FARTHEST:
        return None
    return shortest(_flags_of(sentence, direction, starts, many), direction[0] * again)


def without_last_of_two(sentence):
    """Tell the form of what is so of a count by which the sentence is so with some number behind it.

    None where its bounds are so great that this would take too long."""
    within = ("and", _NOT_BELOW, sentence)
    lines = _lines(_lows(sentence), period_of(leaves_of(sentence), (0, 1)))
    sets = [_set_of(within, direction, offs) for direction, offs in lines.items()]
    if None in sets:
        return None
    return any_of([form_of(flags, again) for flags, again in joined_sets(sets)])
