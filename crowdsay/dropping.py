"""Sentences without their last count: so of counts by which, with some number behind them, a sentence is so."""

from math import gcd, lcm

from crowdsay.forms import all_of, any_of, least_form, not_form, rest_form


def _clauses(sentence, is_told_so):
    """Tell lists of leasts, rests and rests not so: all of some list are so where the sentence is (or isn't)."""
    word = sentence[0]
    if word == "not":
        return _clauses(sentence[1], not is_told_so)
    if word in ("and", "or"):
        left = _clauses(sentence[1], is_told_so)
        right = _clauses(sentence[2], is_told_so)
        if (word == "or") == is_told_so:
            return left + right
        return [one + other for one in left for other in right]
    if is_told_so:
        return [[sentence]]
    if word == "least":
        return [[("least", tuple([-weight for weight in sentence[1]]), 1 - sentence[2])]]
    return [[("not", sentence)]]


def _leaf_of(literal):
    return literal[1] if literal[0] == "not" else literal


def _is_by_last(literal):
    leaf = _leaf_of(literal)
    last = leaf[1][-1]
    return last != 0 if leaf[0] == "least" else last % leaf[2] != 0


def _put_in(literal, weights, more, by):
    """Tell the form of the literal with (counts times weights, and more) divided by by, as its last number."""
    leaf = _leaf_of(literal)
    *firsts, last = leaf[1]
    summed = [by * first + last * weight for first, weight in zip(firsts, weights)]
    if leaf[0] == "least":
        return least_form(summed, by * leaf[2] - last * more)
    form = rest_form(summed, by * leaf[2], by * leaf[3] - last * more)
    return form if literal == leaf else not_form(form)


def _period(literals):
    period = 1
    for literal in literals:
        leaf = _leaf_of(literal)
        if leaf[0] == "rest":
            period = lcm(period, leaf[2] // gcd(leaf[1][-1], leaf[2]))
    return period


def _end_of(least):
    """Tell where a least begins, or ends, to be so: (weights, more, by) of the last number there."""
    *firsts, last = least[1]
    if last > 0:
        return [-first for first in firsts], least[2], last
    return firsts, -least[2], -last


def _from_ends(literals, ends, way):
    # Where any number does at all, one does that is fewer than a period's steps from an end: a period nearer to all
    # ends that it is beyond it would do, too.
    found = []
    for weights, more, by in ends:
        for step in range(by * _period(literals)):
            off = more + way * step
            forms = [_put_in(literal, weights, off, by) for literal in literals]
            found.append(all_of([rest_form(weights, by, -off), *forms, least_form(weights, -off)]))
    return any_of(found)


def _total_by(ends):
    return sum([end[2] for end in ends])


def _some_number_does(literals, many):
    begin = ([0] * many, 0, 1)
    leasts = [literal for literal in literals if literal[0] == "least"]
    rests = [literal for literal in literals if literal[0] != "least"]
    lows = [_end_of(least) for least in leasts if least[1][-1] > 0]
    highs = [_end_of(least) for least in leasts if least[1][-1] < 0]
    if not highs:
        # A number great enough is above all lows, so the rests alone tell.
        return _rests_meet(rests, begin)
    if _total_by(highs) < _total_by([begin, *lows]):
        return _from_ends(rests + leasts, highs, -1)
    return _from_ends(rests + leasts, [begin, *lows], 1)


def _rests_meet(literals, begin):
    if len(literals) == 1:
        leaf = _leaf_of(literals[0])
        if literals[0] != leaf:
            # Of the rests that come by some numbers there are two or more, so one is another than this.
            return True
        return rest_form(leaf[1][:-1], gcd(leaf[1][-1], leaf[2]), leaf[3])
    return _from_ends(literals, [begin], 1)


def without_last(sentence, many):
    """Tell the form of what is so of counts, so many, by which the sentence is so with some number behind them."""
    found = []
    for clause in _clauses(sentence, True):
        fixed = [_put_in(literal, [0] * many, 0, 1) for literal in clause if not _is_by_last(literal)]
        moving = [literal for literal in clause if _is_by_last(literal)]
        found.append(all_of([*fixed, _some_number_does(moving, many)]))
    return any_of(found)
