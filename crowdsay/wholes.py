"""Whole numbers among things of any kind."""


def is_whole(thing):
    """Tell whether the thing is a whole number: an int that is no truth."""
    return isinstance(thing, int) and not isinstance(thing, bool)


def are_wholes(things):
    """Tell whether each of the things is a whole number."""
    return all([is_whole(thing) for thing in things])
