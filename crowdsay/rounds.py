"""What is said in the end: the rounds within which fair rows of meetings go on, and what crowds say."""

from crowdsay.comings import MOST_CROWDS, spread
from crowdsay.customs import says_yes


def _ends_of(leads):
    return [[end for _, end in lead] for lead in leads]


def _turned(ends):
    starts = [[] for _ in ends]
    for start, places in enumerate(ends):
        for end in places:
            starts[end].append(start)
    return starts


def _leaving_order(ends):
    # A walk in depth, without calls within calls: hundreds of crowds may come one behind the other.
    order = []
    entered = [False for _ in ends]
    done = [0 for _ in ends]
    for first in range(len(ends)):
        path = [] if entered[first] else [first]
        entered[first] = True
        while path:
            place = path[-1]
            if done[place] == len(ends[place]):
                order.append(path.pop())
                continue
            end = ends[place][done[place]]
            done[place] += 1
            if not entered[end]:
                entered[end] = True
                path.append(end)
    return order


def _group_from(ends, first, is_taken):
    is_taken[first] = True
    group = [first]
    for_later = [first]
    while for_later:
        place = for_later.pop()
        for end in ends[place]:
            if not is_taken[end]:
                is_taken[end] = True
                group.append(end)
                for_later.append(end)
    return group


def _groups_of(ends):
    # Those left last by a walk against the leads come first, so that what a group leads to is taken before it
    # and only what leads back to its first one is still free.
    is_taken = [False for _ in ends]
    groups = []
    for place in reversed(_leaving_order(_turned(ends))):
        if not is_taken[place]:
            groups.append(_group_from(ends, place, is_taken))
    return groups


def _does_lead_out(ends, group):
    within = {place: True for place in group}
    return any([end not in within for place in group for end in ends[place]])


def rounds_within(crowds, leads):
    """Tell the rounds of a spread."""
    ends = _ends_of(leads)
    groups = [group for group in _groups_of(ends) if not _does_lead_out(ends, group)]
    return sorted([sorted([crowds[place] for place in group]) for group in groups])


def steps_to(leads, places):
    """Tell by place the fewest rows to one of these places, of each place of a spread that leads to one."""
    starts = _turned(_ends_of(leads))
    steps = {place: 0 for place in places}
    reached = list(places)
    while reached:
        nexts = []
        for place in reached:
            for start in starts[place]:
                if start not in steps:
                    steps[start] = steps[place] + 1
                    nexts.append(start)
        reached = nexts
    return steps


def rounds(custom, crowd):
    """Tell all rounds that come from the crowd, by their first crowds rising."""
    crowds, leads = spread(custom, crowd, MOST_CROWDS)
    return rounds_within(crowds, leads)


def agrees(custom, crowd):
    """Tell "yes" or "no" where each of the folk says so, else None."""
    said = [says_yes(custom, kind) for kind, many in zip(custom.kinds, crowd) if many > 0]
    if all(said):
        return "yes"
    return None if any(said) else "no"


def all_agree(custom, crowds):
    """Tell "yes" or "no" where all of the crowds agree on it, else None."""
    words = [agrees(custom, crowd) for crowd in crowds]
    return words[0] if all([word == words[0] for word in words]) else None


def sure_places(custom, crowds, leads, word):
    """Tell the places of the crowds of a spread that are sure of the word."""
    others = [place for place, crowd in enumerate(crowds) if agrees(custom, crowd) != word]
    unsure = steps_to(leads, others)
    return [place for place in range(len(crowds)) if place not in unsure]


def says(custom, crowd):
    """Tell what the crowd says in the end: "yes", "no" or "split"."""
    word = all_agree(custom, [one for a_round in rounds(custom, crowd) for one in a_round])
    return "split" if word is None else word


def sure(custom, crowd):
    """Tell "yes" or "no" where all crowds that come agree on it, else None."""
    crowds, _ = spread(custom, crowd, MOST_CROWDS)
    return all_agree(custom, crowds)
