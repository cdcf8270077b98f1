"""Sentences along rows of counts: where on the way from some counts on, always by the same step, one is so."""

from math import gcd, lcm

from crowdsay.sums import worth_of


def _add_leaves(sentence, leaves):
    if sentence[0] in ("least", "rest"):
        leaves[sentence] = True
        return
    for part in sentence[1:]:
        _add_leaves(part, leaves)


def leaves_of(sentence):
    """Tell once each the leasts and rests of the sentence."""
    leaves = {}
    _add_leaves(sentence, leaves)
    return list(leaves)


def period_of(leaves, step):
    """Tell after how many steps all rests among the leaves are again as they were."""
    period = 1
    for leaf in leaves:
        if leaf[0] == "rest":
            period = lcm(period, leaf[2] // gcd(worth_of(leaf[1], step), leaf[2]))
    return period


def _least_bits(leaf, start, step, many):
    over = worth_of(leaf[1], start) - leaf[2]
    rise = worth_of(leaf[1], step)
    whole = (1 << many) - 1
    if rise == 0:
        return whole if over >= 0 else 0
    if rise < 0:
        last = over // -rise
        return whole if last >= many else (1 << max(0, last + 1)) - 1
    first = -(over // rise)
    if first >= many:
        return 0
    return whole if first <= 0 else whole - ((1 << first) - 1)


def _repeated(bits, stride, many):
    span = stride
    while span < many:
        bits = bits | (bits << span)
        span = span * 2
    return bits & ((1 << many) - 1)


def _rest_bits(leaf, start, step, many):
    parts = leaf[2]
    rise = worth_of(leaf[1], step) % parts
    off = (leaf[3] - worth_of(leaf[1], start)) % parts
    stride = parts // gcd(rise, parts)
    for first in range(stride):
        if rise * first % parts == off:
            return _repeated(1 << first, stride, many)
    return 0


def _leaf_bits(leaf, line):
    start, step, many = line
    if leaf[0] == "least":
        return _least_bits(leaf, start, step, many)
    return _rest_bits(leaf, start, step, many)


def _bits_of(sentence, line, known):
    word = sentence[0]
    if word == "not":
        return ((1 << line[2]) - 1) ^ _bits_of(sentence[1], line, known)
    if word == "and":
        bits = _bits_of(sentence[1], line, known)
        return bits & _bits_of(sentence[2], line, known) if bits else 0
    if word == "or":
        return _bits_of(sentence[1], line, known) | _bits_of(sentence[2], line, known)
    if sentence not in known:
        known[sentence] = _leaf_bits(sentence, line)
    return known[sentence]


def bits_along(sentence, start, step, many):
    """Tell by bits, of so many counts from start on, the lowest bit for start, of which the sentence is so."""
    return _bits_of(sentence, (start, step, many), {})
