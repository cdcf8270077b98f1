"""The leasts and rests of a sentence in order, and the whole sentence by what is told of each of them."""


def _add_leaves(sentence, leaves):
    if sentence[0] in ("least", "rest"):
        leaves.append(sentence)
        return
    for part in sentence[1:]:
        _add_leaves(part, leaves)


def leaves_in_order(sentence):
    """Tell the leasts and rests of the sentence in order, each as often as it stands there."""
    leaves = []
    _add_leaves(sentence, leaves)
    return leaves


def _is_so_from(sentence, truths, place):
    """Tell whether the sentence is so, and the place behind its last truth, its first one being at this place."""
    word = sentence[0]
    if word in ("least", "rest"):
        return truths[place], place + 1
    one, behind_one = _is_so_from(sentence[1], truths, place)
    if word == "not":
        return not one, behind_one
    # Gone through even where it doesn't matter any more, since its truths are to be counted.
    other, behind_both = _is_so_from(sentence[2], truths, behind_one)
    return (one and other if word == "and" else one or other), behind_both


def is_so_by(sentence, truths):
    """Tell whether the sentence is so where these are the truths of its leasts and rests, in order."""
    return _is_so_from(sentence, truths, 0)[0]
