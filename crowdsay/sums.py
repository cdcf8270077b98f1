"""What is kept: sums of a crowd's counts that no row of a custom changes."""

from math import lcm

from crowdsay.reducing import first_place, reduced


def worth_of(weights, crowd):
    """Tell the sum's worth in the crowd: each count times its number, added."""
    return sum([weight * many for weight, many in zip(weights, crowd)])


def _changes_of(custom):
    changes = {}
    for a, b, c, d in custom.steps:
        change = [0] * len(custom)
        change[a] -= 1
        change[b] -= 1
        change[c] += 1
        change[d] += 1
        # Many rows may change the counts alike; each change is needed once.
        changes[tuple(change)] = True
    return list(changes)


def _sum_with(place, changes, many):
    # The number at this place is free; where a reduced change begins stands what makes up for it.
    times = 1
    for change in changes:
        times = lcm(times, change[first_place(change)])
    numbers = [0] * many
    numbers[place] = times
    for change in changes:
        first = first_place(change)
        numbers[first] = -change[place] * (times // change[first])
    return numbers


def kept_sums(custom):
    """Tell the kept sums by which all others come: a list of tuples, reduced, by their first places."""
    many = len(custom)
    changes = reduced(_changes_of(custom))
    firsts = {first_place(change): True for change in changes}
    found = [_sum_with(place, changes, many) for place in range(many) if place not in firsts]
    return [tuple(numbers) for numbers in reduced(found)]


def is_kept(custom, weights, *, by=0):
    """Tell whether no row changes the sum; or where by isn't 0, whether by parts each change."""
    changes = [worth_of(weights, change) for change in _changes_of(custom)]
    if by == 0:
        return not any(changes)
    return all([change % by == 0 for change in changes])


def parted_by(custom, one, other):
    """Tell the first of the kept sums whose worths in the two crowds differ, or None."""
    for weights in kept_sums(custom):
        if worth_of(weights, one) != worth_of(weights, other):
            return weights
    return None
