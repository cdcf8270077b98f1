"""Two kinds that meet, by their places."""


def rising(one, other):
    """Tell the two as a row has them: the lesser one ahead."""
    return (one, other) if one <= other else (other, one)
