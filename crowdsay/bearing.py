"""What each of the folk bears for one least or rest: (follows, worth, is_yes), by which they come to say it.

All come as ones who lead. Where two of these meet, one of them follows from then on; who leads gathers what all
others bear, as far as it can be held, and tells those who follow what to say. All worths together are kept (of a
rest: but for its parts)."""


def rule_of(leaf):
    """Tell by what folk go for a least or a rest: its word, how far a worth is held, and the bound or the rest."""
    word, weights, number = leaf[:3]
    if word == "rest":
        return (word, number, leaf[3])
    # Held this far, a worth is at the bound or beyond it at the one end, and below it at the other one.
    return (word, max([abs(weight) for weight in weights] + [number, 1 - number]), number)


def begun(rule, weight):
    """Tell what one who leads bears of this weight."""
    word, far, bound = rule
    if word == "rest":
        held = weight % far
        return (False, held, held == bound)
    held = max(-far, min(far, weight))
    return (False, held, held >= bound)


def met(rule, one, other):
    """Tell what the two bear, each in its place, where they met."""
    if one[0] and other[0]:
        return one, other
    if one[0]:
        leading, following = met(rule, other, one)
        return following, leading
    worth = one[1] + other[1]
    leading = begun(rule, worth)
    left = worth - leading[1] if rule[0] == "least" else 0
    return leading, (True, left, leading[2])
