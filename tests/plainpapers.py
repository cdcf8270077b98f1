"""Papers for all crowds, looked over by the document's words alone, and some of them by hand."""

import itertools

from plain import leaves_of

from crowdsay.customs import Custom

ODD = Custom(
    ("odd", "even", "n", "y"),
    (
        ("odd", "odd", "even", "n"), ("odd", "even", "odd", "y"), ("odd", "n", "odd", "y"),
        ("even", "even", "even", "n"), ("even", "y", "even", "n"),
    ),
    (("in", "odd"),),
    yes=("odd", "y"),
)
ODD_SENTENCE = ("rest", (1,), 2, 1)


def odd_paper():
    """A right paper of ODD; a new one each time, so that any may be changed."""
    return (
        [([0, 1, 3], (1, 1, 0, 0)), ([2], (0, 0, 1, 0)), ([4], (0, 0, 0, 1))],
        [("odd", "even")],
        [(1, 0, 0, 0)],
    )


# Of this sentence any custom all of whose kinds say yes has a right paper, where its layers are right.
ALWAYS = ("least", (0,), 0)


def always_paper(custom, layers, lots=()):
    return layers, list(lots), [(0,) * len(custom.kinds)]


def _are_layers_right(custom, layers):
    for number in range(len(custom.rows)):
        if len([1 for numbers, _ in layers if number in numbers]) != 1:
            return False
    places = {kind: place for place, kind in enumerate(custom.kinds)}
    for numbers, weights in layers:
        if not numbers or min(weights) < 0:
            return False
        for number in numbers:
            a, b, c, d = [weights[places[kind]] for kind in custom.rows[number]]
            if not c + d < a + b:
                return False
    return True


def _opens(custom, layers, number, i, other):
    a, b, c, d = custom.rows[number]
    two = sorted(custom.rows[other][:2])
    if sorted([c, d]) == two:
        return True
    ahead = [sorted(custom.rows[row][:2]) for numbers, _ in layers[:i + 1] for row in numbers]
    for one, r in itertools.product((c, d), custom.kinds):
        if sorted([one, r]) == two and sorted([a, r]) not in ahead and sorted([b, r]) not in ahead:
            return True
    return False


def _is_none_opened(custom, layers):
    for j, (numbers, _) in enumerate(layers):
        for i in range(j):
            for number, other in itertools.product(numbers, layers[i][0]):
                if _opens(custom, layers, number, i, other):
                    return False
    return True


def _are_lots_right(custom, lots):
    for lot in lots:
        if not lot or any(kind not in lot for _, kind in custom.gates):
            return False
        if list(lot) != sorted(set(lot), key=custom.kinds.index):
            return False
        for a, b, c, d in custom.rows:
            if (a in lot or b in lot) and c not in lot and d not in lot:
                return False
    return True


def _are_sums_right(custom, leaves, sums):
    if len(sums) != len(leaves):
        return False
    for leaf, numbers in zip(leaves, sums):
        worth = dict(zip(custom.kinds, numbers))
        by = leaf[2] if leaf[0] == "rest" else None
        offs = [worth[c] + worth[d] - worth[a] - worth[b] for a, b, c, d in custom.rows]
        offs += [worth[kind] - weight for (_, kind), weight in zip(custom.gates, leaf[1])]
        if any(off != 0 if by is None else off % by != 0 for off in offs):
            return False
    return True


def _told(leaf, worth, chosen, others):
    total = sum(worth[kind] for kind in chosen)
    if leaf[0] == "rest":
        if any(worth[kind] % leaf[2] for kind in others):
            return None
        return total % leaf[2] == leaf[3]
    if total >= leaf[2]:
        return None if any(worth[kind] < 0 for kind in others) else True
    return None if any(worth[kind] > 0 for kind in others) else False


def _joined(sentence, truths):
    if sentence[0] in ("least", "rest"):
        return next(truths)
    parts = [_joined(part, truths) for part in sentence[1:]]
    return not parts[0] if sentence[0] == "not" else (all if sentence[0] == "and" else any)(parts)


def _is_choice_right(custom, sentence, leaves, sums, chosen):
    twos = [{a, b} for a, b, _, _ in custom.rows]
    chosen = set(chosen)
    if any(two <= chosen and len(two) == 2 for two in twos):
        return True
    others = [kind for kind in custom.kinds if not any({kind, one} in twos for one in chosen)]
    told = [_told(leaf, dict(zip(custom.kinds, numbers)), chosen, others) for leaf, numbers in zip(leaves, sums)]
    if None in told:
        return False
    is_so = _joined(sentence, iter(told))
    return all((kind in custom.yes) == is_so for kind in [*chosen, *others])


def is_plainly_right(custom, sentence, paper):
    """Whether the paper, which has the shape of one, is right."""
    layers, lots, sums = paper
    leaves = leaves_of(sentence)
    if not (_are_layers_right(custom, layers) and _is_none_opened(custom, layers)):
        return False
    if not (_are_lots_right(custom, lots) and _are_sums_right(custom, leaves, sums)):
        return False
    return all(_is_choice_right(custom, sentence, leaves, sums, chosen) for chosen in itertools.product(*lots))
