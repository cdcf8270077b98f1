"""Layers of a custom's rows: whether they show that meetings come to an end, layer by layer."""

from crowdsay.twos import rising
from crowdsay.wholes import are_wholes


def are_weights(custom, thing):
    """Tell whether the thing, whatever it is, is a tuple of one whole number for each kind."""
    return isinstance(thing, tuple) and len(thing) == len(custom) and are_wholes(thing)


def _are_numbers(custom, thing):
    if not isinstance(thing, list) or not thing or not are_wholes(thing):
        return False
    return min(thing) >= 0 and max(thing) < len(custom.rows)


def _is_layer(custom, thing):
    if not isinstance(thing, tuple) or len(thing) != 2:
        return False
    numbers, weights = thing
    return _are_numbers(custom, numbers) and are_weights(custom, weights) and min(weights) >= 0


def _do_lessen(custom, numbers, weights):
    for number in numbers:
        a, b, c, d = custom.steps[number]
        if weights[c] + weights[d] >= weights[a] + weights[b]:
            return False
    return True


def _layers_by_row(layers):
    """Tell by a row's number the layers that it is in, each once."""
    found = {}
    for place, (numbers, _) in enumerate(layers):
        for number in numbers:
            found.setdefault(number, {})[place] = True
    return {number: list(places) for number, places in found.items()}


class Meetings:
    """In which layer the row is that is done where two kinds meet."""

    def __init__(self, custom, layer_of, none):
        self.layers = {step[:2]: layer_of[number] for number, step in enumerate(custom.steps)}
        self.none = none

    def layer(self, one, other):
        """Tell the layer, or, where no row is done, a number above all layers."""
        return self.layers.get(rising(one, other), self.none)


def _does_open(meetings, step, layer, kind):
    """Tell whether, in a layer ahead, one who became this kind has a row with some kind that was barred till then."""
    a, b, c, d = step
    for come in (c, d):
        ahead = meetings.layer(come, kind)
        if ahead < layer and meetings.layer(a, kind) > ahead and meetings.layer(b, kind) > ahead:
            return True
    return False


def _is_any_opened(custom, layer_of, many):
    meetings = Meetings(custom, layer_of, many)
    for number, step in enumerate(custom.steps):
        layer = layer_of[number]
        if meetings.layer(step[2], step[3]) < layer:
            return True
        if any([_does_open(meetings, step, layer, kind) for kind in range(len(custom))]):
            return True
    return False


def are_layers(custom, thing):
    """Tell whether the thing, whatever it is, is a list of layers by which all meetings come to an end."""
    if not isinstance(thing, list) or not all([_is_layer(custom, part) for part in thing]):
        return False
    layers_by_row = _layers_by_row(thing)
    if len(layers_by_row) < len(custom.rows) or any([len(places) > 1 for places in layers_by_row.values()]):
        return False
    if not all([_do_lessen(custom, numbers, weights) for numbers, weights in thing]):
        return False
    layer_of = {number: places[0] for number, places in layers_by_row.items()}
    return not _is_any_opened(custom, layer_of, len(thing))
