"""Gates by their words: how many came by each of them."""

from crowdsay.errors import NoGate

# The words of gates that aren't told by anybody, in order.
GATE_WORDS = ("a", "b", "c")


def place_of_gate(words, word):
    """Tell the place of the gate's word among the words, or refuse it with NoGate."""
    if word not in words:
        raise NoGate(word)
    return words.index(word)


def with_more(came, place, many):
    """Tell the counts with so many more at the place."""
    return tuple([count + many if at == place else count for at, count in enumerate(came)])


def came_by(words, came, word):
    """Tell how many came by the gate of this word, or in all where it is None."""
    if word is None:
        return sum(came)
    return came[place_of_gate(words, word)]
