"""What can come: the crowds that rows lead to from a crowd, and the shortest way from one crowd to another."""

from crowdsay.errors import TooMany
from crowdsay.meetings import behind, can_be_done

MOST_CROWDS = 400


def spread(custom, crowd, most):
    """Tell the crowds that come, and for each of them its leads: pairs (row's number, place of the crowd behind it).

    The crowds stand by their shortest ways from the first one, those of one length by the least of these."""
    crowds = [crowd]
    places = {crowd: 0}
    leads = []
    while len(leads) < len(crowds):
        # Asked before each crowd is looked at: without end there may be more than could ever be counted.
        if len(crowds) > most:
            raise TooMany(most)
        start = crowds[len(leads)]
        lead = []
        for number in can_be_done(custom, start):
            come = behind(custom, start, number)
            if come not in places:
                places[come] = len(crowds)
                crowds.append(come)
            lead.append((number, places[come]))
        leads.append(lead)
    return crowds, leads


def way_to(leads, place):
    """Tell the shortest list of rows, of these the least, from the first crowd of a spread to the one at this place."""
    firsts = {}
    for start, lead in enumerate(leads):
        for number, end in lead:
            firsts.setdefault(end, (start, number))
    numbers = []
    while place > 0:
        place, number = firsts[place]
        numbers.append(number)
    return numbers[::-1]


def comes(custom, crowd, *, most=MOST_CROWDS):
    """Tell all crowds that come from the crowd, as tuples rise."""
    crowds, _ = spread(custom, crowd, most)
    return sorted(crowds)


def way(custom, one, other, *, most=MOST_CROWDS):
    """Tell the shortest list of rows from one crowd to the other, of these the least, or None."""
    crowds, leads = spread(custom, one, most)
    if other not in crowds:
        return None
    return way_to(leads, crowds.index(other))
