"""In the mean: how many meetings there are till a crowd is sure, and the chances of its rounds, as exact shares."""

from crowdsay.comings import MOST_CROWDS, spread
from crowdsay.errors import TooMany
from crowdsay.reducing import reduced
from crowdsay.rounds import all_agree, rounds_within, sure_places
from crowdsay.shares import Share

MOST_BETWEEN = 40


def _pairs_of(many):
    return many * (many - 1) // 2


def _pairs_for(crowd, step):
    # How many pairs of folk are such that this row is done where they meet.
    a, b = step[:2]
    return _pairs_of(crowd[a]) if a == b else crowd[a] * crowd[b]


def _moves(custom, crowd, lead):
    """Tell by place how many pairs of the crowd's folk lead there."""
    moves = {}
    for number, end in lead:
        moves[end] = moves.get(end, 0) + _pairs_for(crowd, custom.steps[number])
    return moves


def _round_numbers(crowds, all_rounds):
    """Tell by place which round a crowd is in, of those that are in one."""
    number_of = {crowd: number for number, a_round in enumerate(all_rounds) for crowd in a_round}
    return {place: number_of[crowd] for place, crowd in enumerate(crowds) if crowd in number_of}


def _between(crowds, round_numbers):
    between = [place for place in range(len(crowds)) if place not in round_numbers]
    if len(between) > MOST_BETWEEN:
        raise TooMany(MOST_BETWEEN)
    return between


def _visits(moves, between, pairs):
    """Tell by place how many meetings in the mean begin in each of the crowds between, a share.

    As many lead out of each as lead into it, and one more out of the first crowd: by pairs, so that all numbers of
    what is to be solved are whole."""
    rows = []
    for end in between:
        row = [-moves[start].get(end, 0) for start in between]
        row[between.index(end)] += sum(moves[end].values())
        rows.append([*row, pairs if end == 0 else 0])
    solved = reduced(rows)
    return {place: Share(row[-1], row[at]) for at, (place, row) in enumerate(zip(between, solved))}


def _spread_out(custom, crowd):
    crowds, leads = spread(custom, crowd, MOST_CROWDS)
    all_rounds = rounds_within(crowds, leads)
    between = _between(crowds, _round_numbers(crowds, all_rounds))
    moves = {place: _moves(custom, crowds[place], leads[place]) for place in between}
    return crowds, leads, all_rounds, _visits(moves, between, _pairs_of(sum(crowd))), moves


def mean(custom, crowd):
    """Tell the mean of how many meetings there are till the crowd is sure of yes or of no, a share, or None."""
    crowds, leads, all_rounds, visits, _ = _spread_out(custom, crowd)
    if None in [all_agree(custom, a_round) for a_round in all_rounds]:
        return None
    sure = sure_places(custom, crowds, leads, "yes") + sure_places(custom, crowds, leads, "no")
    total = Share(0)
    for place in visits:
        if place not in sure:
            total = total.plus(visits[place])
    return total


def chances(custom, crowd):
    """Tell for each round that comes, in order, the chance that it is the one in the end: a list of shares."""
    crowds, _, all_rounds, visits, moves = _spread_out(custom, crowd)
    if not visits:
        return [Share(1)]
    round_numbers = _round_numbers(crowds, all_rounds)
    told = [Share(0) for _ in all_rounds]
    for place in visits:
        for end, many in moves[place].items():
            if end in round_numbers:
                number = round_numbers[end]
                told[number] = told[number].plus(visits[place].times(Share(many, _pairs_of(sum(crowd)))))
    return told
