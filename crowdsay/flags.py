"""Sets of single counts, flag by flag: a text of 1 and 0, and how many of its last flags go on again and again."""

from math import lcm

from crowdsay.forms import all_of, any_of, least_form, not_form, rest_form

_LONGEST = 40000
_MOST_TIMES = 60


def _longer(flags, again, many):
    # At least so many flags, with the last ones gone on with.
    times = max(0, many - len(flags)) // again + 1
    return (flags + flags[len(flags) - again:] * times)[:max(many, len(flags))]


def shortest(flags, again):
    """Tell the same set with as few flags, and as few that go on, as can be."""
    end = flags[len(flags) - again:]
    fewer = 1
    while again % fewer != 0 or end != end[:fewer] * (again // fewer):
        fewer += 1
    many = len(flags) - again + fewer
    while many > fewer and flags[many - 1] == flags[many - 1 - fewer]:
        many -= 1
    return flags[:many], fewer


def _both(one, other):
    again = lcm(one[1], other[1])
    many = max(len(one[0]) - one[1], len(other[0]) - other[1]) + again
    if many > _LONGEST:
        return None
    left = _longer(one[0], one[1], many)
    right = _longer(other[0], other[1], many)
    flags = "".join(["1" if "1" in both else "0" for both in zip(left, right)])
    return shortest(flags, again)


def joined_sets(sets):
    """Tell as few sets as can well be, with all together the same counts in them."""
    kept = []
    for one in sets:
        apart = []
        grown = one
        for other in kept:
            both = _both(grown, other)
            if both is None:
                apart.append(other)
            else:
                grown = both
        kept = [*apart, grown]
    return kept


def _turned(flags):
    return "".join(["0" if flag == "1" else "1" for flag in flags])


def _stretches(flags, first, stride):
    """Tell the form of the counts first, first + stride, .. that are in the set."""
    found = []
    begin = None
    last = "0"
    for place in range(first, len(flags), stride):
        if flags[place] == "1" and last == "0":
            begin = place
        if flags[place] == "0" and last == "1":
            found.append(_from_to(begin, place, first))
        last = flags[place]
    if last == "1":
        found.append(_from_to(begin, None, first))
    return any_of(found)


def _from_to(begin, end, first):
    forms = [] if begin == first else [least_form((1,), begin)]
    if end is not None:
        forms.append(not_form(least_form((1,), end)))
    return all_of(forms)


def _by_rests(flags, parts):
    forms = [all_of([rest_form((1,), parts, first), _stretches(flags, first, parts)]) for first in range(parts)]
    return any_of(forms)


def _cost(flags, parts):
    # How many leasts there are, and rests.
    changed = [1 for flag, later in zip(flags, flags[parts:]) if flag != later]
    classes = [1 for first in range(parts) if "1" in flags[first::parts]]
    return len(changed) + (len(classes) if parts > 1 else 0)


def form_of(flags, again):
    """Tell a form, as short as is easily found, of the counts that are in the set."""
    best = None
    for times in range(1, _MOST_TIMES + 1):
        parts = again * times
        # With rests by more than there are flags ahead of the end nothing gets shorter.
        if best is not None and parts > len(flags):
            break
        longer = _longer(flags, again, len(flags) - again + parts)
        for is_turned, text in ((False, longer), (True, _turned(longer))):
            cost = _cost(text, parts)
            if best is None or cost < best[0]:
                best = (cost, is_turned, text, parts)
    _, is_turned, text, parts = best
    form = _by_rests(text, parts)
    return not_form(form) if is_turned else form
