"""Lots and choices: what can be left of a crowd in the end, and whether it says then what is so."""

from crowdsay.customs import says_yes
from crowdsay.inorder import is_so_by


def _is_lot(custom, thing):
    if not isinstance(thing, tuple) or not thing or not all([kind in custom.kinds for kind in thing]):
        return False
    places = [custom.kinds.index(kind) for kind in thing]
    return all([one < other for one, other in zip(places, places[1:])])


def _is_kept_up(custom, lot):
    """Tell whether somebody of the lot comes by each gate, and none of its kinds goes but for one that comes."""
    within = {kind: True for kind in lot}
    if not all([kind in within for _, kind in custom.gates]):
        return False
    return all([c in within or d in within or not (a in within or b in within) for a, b, c, d in custom.rows])


def are_lots(custom, thing):
    """Tell whether the thing, whatever it is, is a list of lots none of which is ever left by all."""
    if not isinstance(thing, list):
        return False
    return all([_is_lot(custom, part) and _is_kept_up(custom, part) for part in thing])


def many_choices(lots):
    """Tell the lots' lengths, times one another."""
    many = 1
    for lot in lots:
        many = many * len(lot)
    return many


def _partners_of(custom):
    """Tell by place, as bits, the kinds with which each kind has a row."""
    partners = [0] * len(custom)
    for a, b, _, _ in custom.steps:
        partners[a] |= 1 << b
        partners[b] |= 1 << a
    return partners


def _is_in(bits, place):
    return (bits >> place) & 1 == 1


def _chosen_from(lots, partners):
    """Tell, as bits by bits, with which kinds the chosen ones have rows, for all choices."""
    found = {0: 0}
    # Short lots ahead, so that there are few choices to go on with.
    for lot in sorted(lots, key=len):
        longer = {}
        for chosen, barred in found.items():
            for place in lot:
                if _is_in(chosen, place) or not _is_in(barred, place):
                    longer[chosen | (1 << place)] = barred | partners[place]
        found = longer
    return found


def choices_of(custom, lots):
    """Tell all choices: pairs of the places of the chosen kinds and of those that may be beside them."""
    places = [[custom.kinds.index(kind) for kind in lot] for lot in lots]
    found = []
    for chosen, barred in _chosen_from(places, _partners_of(custom)).items():
        ones = [place for place in range(len(custom)) if _is_in(chosen, place)]
        others = [place for place in range(len(custom)) if not _is_in(barred, place)]
        found.append((ones, others))
    return found


def _told_of(leaf, numbers, choice):
    """Tell whether the least or rest is so by the choice, or None where it isn't told."""
    chosen, others = choice
    worth = sum([numbers[place] for place in chosen])
    if leaf[0] == "rest":
        is_told = all([numbers[place] % leaf[2] == 0 for place in others])
        return worth % leaf[2] == leaf[3] if is_told else None
    if worth >= leaf[2]:
        return True if all([numbers[place] >= 0 for place in others]) else None
    return False if all([numbers[place] <= 0 for place in others]) else None


class Saying:
    """What a custom's kinds say, to be set against what a sentence is by its sums, one for each least and rest."""

    def __init__(self, custom, sentence, leaves, sums):
        self.are_yes = [says_yes(custom, kind) for kind in custom.kinds]
        self.sentence = sentence
        self.leaves = leaves
        self.sums = sums

    def is_right(self, choice):
        """Tell whether by this choice each least and rest is told, and all say whether the sentence is so."""
        told = [_told_of(leaf, numbers, choice) for leaf, numbers in zip(self.leaves, self.sums)]
        if None in told:
            return False
        is_so = is_so_by(self.sentence, told)
        chosen, others = choice
        return all([self.are_yes[place] == is_so for place in chosen + others])
