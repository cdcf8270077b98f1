"""Papers for all crowds at once, by which a custom is shown to say whether a sentence is so."""

from crowdsay.choices import Saying, are_lots, choices_of, many_choices
from crowdsay.errors import TooMany
from crowdsay.inorder import leaves_in_order
from crowdsay.joined import joined, turned
from crowdsay.layers import are_layers, are_weights
from crowdsay.made import borne_by, made_for
from crowdsay.pairing import pairs_that_come
from crowdsay.sentences import many_of
from crowdsay.sums import is_kept
from crowdsay.twos import rising

MOST_CHOICES = 4000


def _is_sum(custom, leaf, thing):
    if not are_weights(custom, thing):
        return False
    by = leaf[2] if leaf[0] == "rest" else 0
    offs = [thing[custom.kinds.index(kind)] - weight for (_, kind), weight in zip(custom.gates, leaf[1])]
    return is_kept(custom, thing, by=by) and not any([off % by if by > 0 else off for off in offs])


def _are_sums(custom, leaves, thing):
    if not isinstance(thing, list) or len(thing) != len(leaves):
        return False
    return all([_is_sum(custom, leaf, part) for leaf, part in zip(leaves, thing)])


def _refuse_many(lots):
    if many_choices(lots) > MOST_CHOICES:
        raise TooMany(MOST_CHOICES)


def is_paper_for_all(custom, sentence, thing):
    """Tell whether the thing, whatever it is, is a right paper of the custom and the sentence."""
    if not isinstance(thing, tuple) or len(thing) != 3 or many_of(sentence) != len(custom.gates):
        return False
    layers, lots, sums = thing
    leaves = leaves_in_order(sentence)
    if not are_layers(custom, layers) or not are_lots(custom, lots) or not _are_sums(custom, leaves, sums):
        return False
    _refuse_many(lots)
    saying = Saying(custom, sentence, leaves, sums)
    return all([saying.is_right(choice) for choice in choices_of(custom, lots)])


def _layer_place(one, other, following):
    """Tell in which layer a row of a least or a rest is; one leads, and following is what the other one becomes.

    First all but one come to follow, then this one gathers, then tells all yes, or no."""
    if not other[0]:
        return 0
    if following[1] != other[1]:
        return 1
    return 2 if one[2] else 3


def _layer_weights(borne):
    return [
        tuple([0 if follows else 1 for follows, _, _ in borne]),
        tuple([abs(worth) if follows else 0 for follows, worth, _ in borne]),
        tuple([1 if follows and not is_yes else 0 for follows, _, is_yes in borne]),
        tuple([1 if follows and is_yes else 0 for follows, _, is_yes in borne]),
    ]


def _layers_of(groups, weights):
    return [(numbers, some) for numbers, some in zip(groups, weights) if numbers]


def _paper_for_leaf(leaf):
    custom = made_for(leaf)
    borne = borne_by(leaf)
    groups = [[] for _ in range(4)]
    # Those who lead stand ahead of those who follow, so in each row a and c do lead.
    for number, (a, b, _, d) in enumerate(custom.steps):
        groups[_layer_place(borne[a], borne[b], borne[d])].append(number)
    lot = tuple([kind for kind, (follows, _, _) in zip(custom.kinds, borne) if not follows])
    return _layers_of(groups, _layer_weights(borne)), [lot], [tuple([worth for _, worth, _ in borne])]


def turned_paper(custom, one):
    """Tell a right paper of the custom turned, where one is a right one of the custom."""
    layers, lots, sums = one
    return [(list(numbers), weights) for numbers, weights in layers], list(lots), list(sums)


class Pairs:
    """The pairs that the kinds of a custom stand for that was joined of two."""

    def __init__(self, custom, other):
        self.pairs = pairs_that_come(custom, other)

    def numbers(self, side, weights):
        """Tell for each pair the number of its kind of this side."""
        return tuple([weights[pair[side]] for pair in self.pairs])

    def lot(self, side, kinds, lot, words):
        """Tell the words of the pairs whose kind of this side is in the lot."""
        return tuple([word for word, pair in zip(words, self.pairs) if kinds[pair[side]] in lot])

    def two(self, side, step):
        """Tell the two kinds of this side that meet by a row, rising."""
        return rising(self.pairs[step[0]][side], self.pairs[step[1]][side])


def _layers_by_two(custom, layers):
    """Tell the layer of the row that is done where two kinds meet."""
    return {custom.steps[number][:2]: place for place, (numbers, _) in enumerate(layers) for number in numbers}


def _joined_layers(whole, pairs, customs, papers):
    # A row of both customs goes with its row of the first one, whatever the second one's does meanwhile.
    lefts = _layers_by_two(customs[0], papers[0][0])
    rights = _layers_by_two(customs[1], papers[1][0])
    left_groups = [[] for _ in papers[0][0]]
    right_groups = [[] for _ in papers[1][0]]
    for number, step in enumerate(whole.steps):
        left = pairs.two(0, step)
        if left in lefts:
            left_groups[lefts[left]].append(number)
        else:
            right_groups[rights[pairs.two(1, step)]].append(number)
    weights = [pairs.numbers(side, some) for side, paper in enumerate(papers) for _, some in paper[0]]
    return _layers_of(left_groups + right_groups, weights)


def joined_papers(custom, other, one, two, *, word="and"):
    """Tell a right paper of both customs joined, where one is a right one of the first and two of the second."""
    whole = joined(custom, other, word=word)
    pairs = Pairs(custom, other)
    customs = (custom, other)
    papers = (one, two)
    layers = _joined_layers(whole, pairs, customs, papers)
    lots = [
        pairs.lot(side, customs[side].kinds, lot, whole.kinds) for side, paper in enumerate(papers) for lot in paper[1]
    ]
    _refuse_many(lots)
    return layers, lots, [pairs.numbers(side, some) for side, paper in enumerate(papers) for some in paper[2]]


def _made_with_paper(sentence):
    word = sentence[0]
    if word in ("least", "rest"):
        return made_for(sentence), _paper_for_leaf(sentence)
    custom, one = _made_with_paper(sentence[1])
    if word == "not":
        return turned(custom), turned_paper(custom, one)
    other, two = _made_with_paper(sentence[2])
    return joined(custom, other, word=word), joined_papers(custom, other, one, two, word=word)


def paper_for(sentence):
    """Tell a right paper of the custom made for the sentence."""
    # Refused first as the custom is, whose parts' papers may have too many choices before it has too many kinds.
    made_for(sentence)
    return _made_with_paper(sentence)[1]
