"""Papers of a crowd: what shows to anybody that it says yes, or no, or that it is split."""

from crowdsay.comings import MOST_CROWDS, spread, way_to
from crowdsay.errors import NoMeeting, TooMany
from crowdsay.meetings import behind, can_be_done, trail
from crowdsay.rounds import agrees, all_agree, rounds_within, steps_to, sure_places
from crowdsay.wholes import are_wholes, is_whole


def _ranks(custom, crowds, leads, word):
    steps = steps_to(leads, sure_places(custom, crowds, leads, word))
    return {crowd: steps[place] for place, crowd in enumerate(crowds)}


def _way_into(crowds, leads, a_round):
    # Crowds of a spread stand by their ways, so the first one within the round has the least of the shortest.
    places = {crowd: place for place, crowd in enumerate(crowds)}
    return (way_to(leads, min([places[crowd] for crowd in a_round])), a_round)


def _ways(custom, crowds, leads, all_rounds):
    by_word = {}
    for a_round in all_rounds:
        by_word.setdefault(all_agree(custom, a_round), a_round)
    chosen_rounds = [by_word[None]] if None in by_word else [by_word["yes"], by_word["no"]]
    return [_way_into(crowds, leads, a_round) for a_round in chosen_rounds]


def paper(custom, crowd):
    """Tell the crowd's paper: ("yes", ranks), ("no", ranks) or ("split", ways)."""
    crowds, leads = spread(custom, crowd, MOST_CROWDS)
    all_rounds = rounds_within(crowds, leads)
    word = all_agree(custom, [one for a_round in all_rounds for one in a_round])
    if word is None:
        return ("split", _ways(custom, crowds, leads, all_rounds))
    return (word, _ranks(custom, crowds, leads, word))


def _is_crowd(custom, thing):
    if not isinstance(thing, tuple) or len(thing) != len(custom) or not are_wholes(thing):
        return False
    return min(thing) >= 0 and max(thing) > 0


def _is_rank_right(custom, ranks, crowd, word):
    crowds = [behind(custom, crowd, number) for number in can_be_done(custom, crowd)]
    if not all([come in ranks for come in crowds]):
        return False
    rank = ranks[crowd]
    if rank == 0:
        return agrees(custom, crowd) == word and all([ranks[come] == 0 for come in crowds])
    return any([ranks[come] < rank for come in crowds])


def _are_ranks(custom, crowd, thing, word):
    if not isinstance(thing, dict) or not all([_is_crowd(custom, key) for key in thing]):
        return False
    if crowd not in thing or not all([is_whole(rank) and rank >= 0 for rank in thing.values()]):
        return False
    return all([_is_rank_right(custom, thing, one, word) for one in thing])


def _is_round(custom, thing):
    if not isinstance(thing, list) or not thing or not all([_is_crowd(custom, one) for one in thing]):
        return False
    try:
        crowds, leads = spread(custom, thing[0], len(thing))
    except TooMany:
        return False
    return rounds_within(crowds, leads) == [thing]


def _does_lead_into(custom, crowd, numbers, a_round):
    if not isinstance(numbers, list) or not are_wholes(numbers):
        return False
    try:
        crowds = trail(custom, crowd, numbers)
    except NoMeeting:
        return False
    return crowds[-1] in a_round


def _is_way(custom, crowd, thing):
    if not isinstance(thing, tuple) or len(thing) != 2:
        return False
    numbers, a_round = thing
    return _is_round(custom, a_round) and _does_lead_into(custom, crowd, numbers, a_round)


def _are_ways(custom, crowd, thing):
    if not isinstance(thing, list) or not 1 <= len(thing) <= 2:
        return False
    if not all([_is_way(custom, crowd, one) for one in thing]):
        return False
    words = [all_agree(custom, a_round) for _, a_round in thing]
    return None in words or ("yes" in words and "no" in words)


def is_paper(custom, crowd, thing):
    """Tell whether the thing, whatever it is, is a paper of the crowd."""
    if not isinstance(thing, tuple) or len(thing) != 2:
        return False
    word, proof = thing
    if word == "split":
        return _are_ways(custom, crowd, proof)
    return word in ("yes", "no") and _are_ranks(custom, crowd, proof, word)
