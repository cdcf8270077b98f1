"""Rows of whole numbers, reduced as far as times, added and divided by whole numbers can do it."""

from math import gcd


def first_place(row):
    """Tell the place of the row's first number that isn't 0."""
    place = 0
    while row[place] == 0:
        place += 1
    return place


def _without_common_part(row):
    part = 0
    for number in row:
        part = gcd(part, number)
    if row[first_place(row)] < 0:
        part = -part
    return [number // part for number in row]


def _cleared(row, place, by):
    # With 0 at the place, where the row that it is cleared by has a number above 0.
    if row[place] == 0:
        return row
    cleared = [number * by[place] - other * row[place] for number, other in zip(row, by)]
    return _without_common_part(cleared) if any(cleared) else cleared


def reduced(rows):
    """Tell the fewest rows that all of these come from, by the places of their first numbers that aren't 0.

    The numbers of each have no common part, its first one that isn't 0 is above 0, and all others have 0 there."""
    found = {}
    for row in rows:
        for place in sorted(found):
            row = _cleared(row, place, found[place])
        if not any(row):
            continue
        row = _without_common_part(row)
        first = first_place(row)
        for place in sorted(found):
            found[place] = _cleared(found[place], first, row)
        found[first] = row
    return [found[place] for place in sorted(found)]
