"""Customs made for sentences."""

from crowdsay.bearing import begun, met, rule_of
from crowdsay.building import closed, custom_of
from crowdsay.gates import GATE_WORDS
from crowdsay.joined import joined, turned


def _meeting(leaf):
    rule = rule_of(leaf)
    return lambda one, other: met(rule, one, other)


def _gates_of(leaf):
    rule = rule_of(leaf)
    return [(word, begun(rule, weight)) for word, weight in zip(GATE_WORDS, leaf[1])]


def borne_by(leaf):
    """Tell what the kinds of the custom made for a least or a rest bear, in order."""
    return closed([borne for _, borne in _gates_of(leaf)], _meeting(leaf))


def _made_for_leaf(leaf):
    borne = borne_by(leaf)
    return custom_of(borne, _meeting(leaf), _gates_of(leaf), [is_yes for _, _, is_yes in borne])


def made_for(sentence):
    """Tell a custom by which all crowds come to say whether the sentence is so of how many came by each gate."""
    word = sentence[0]
    if word in ("least", "rest"):
        return _made_for_leaf(sentence)
    one = made_for(sentence[1])
    if word == "not":
        return turned(one)
    return joined(one, made_for(sentence[2]), word=word)
