"""Meetings: which rows of a custom can be done in a crowd, and what comes by them."""

from crowdsay.errors import NoMeeting


def can_be_done(custom, crowd):
    """Tell the numbers of the rows that can be done in the crowd, rising."""
    # Told without a call for each row: of one custom the rows of very many crowds are asked for.
    return [
        number
        for number, (a, b, _, _) in enumerate(custom.steps)
        if crowd[a] > 0 and crowd[b] > (1 if a == b else 0)
    ]


def behind(custom, crowd, number):
    """Tell the crowd behind a row that can be done."""
    a, b, c, d = custom.steps[number]
    counts = list(crowd)
    counts[a] -= 1
    counts[b] -= 1
    counts[c] += 1
    counts[d] += 1
    return tuple(counts)


def trail(custom, crowd, numbers):
    """Tell the crowds that come by these rows one behind the other, the first crowd ahead."""
    crowds = [crowd]
    for place, number in enumerate(numbers):
        if number not in can_be_done(custom, crowds[-1]):
            raise NoMeeting(place)
        crowds.append(behind(custom, crowds[-1], number))
    return crowds
