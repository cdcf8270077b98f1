"""Sentences put together plainly. True and False stand for what is so of all counts, and of none."""

from math import gcd


def _common_part(numbers):
    part = 0
    for number in numbers:
        part = gcd(part, number)
    return part


def least_form(weights, bound):
    """Tell the plainest form of a "least"."""
    # Counts are never below 0.
    if bound <= 0 and min(weights) >= 0:
        return True
    if bound > 0 and max(weights) <= 0:
        return False
    part = _common_part(weights)
    return ("least", tuple([weight // part for weight in weights]), -(-bound // part))


def rest_form(weights, parts, rest):
    """Tell the plainest form of a "rest"; the rest may be any whole number here."""
    weights = [weight % parts for weight in weights]
    part = gcd(_common_part(weights), parts)
    if rest % part != 0:
        return False
    if part == parts:
        return True
    return ("rest", tuple([weight // part for weight in weights]), parts // part, rest % parts // part)


def not_form(form):
    """Tell the form of what is so where this one isn't."""
    if isinstance(form, bool):
        return not form
    return form[1] if form[0] == "not" else ("not", form)


def _halved(word, forms):
    # By halves, so that even of very many none stands within many others.
    if len(forms) == 1:
        return forms[0]
    half = len(forms) // 2
    return (word, _halved(word, forms[:half]), _halved(word, forms[half:]))


def _joined(word, idle, forms):
    kept = []
    for form in forms:
        if form == (not idle):
            return form
        if form != idle and form not in kept:
            kept.append(form)
    return _halved(word, kept) if kept else idle


def all_of(forms):
    """Tell the form of what is so where all of these are."""
    return _joined("and", True, forms)


def any_of(forms):
    """Tell the form of what is so where any of these is."""
    return _joined("or", False, forms)


def sentence_of(form, many):
    """Tell the sentence, of so many weights, that a form stands for."""
    if isinstance(form, bool):
        return ("least", (0,) * many, 0 if form else 1)
    return form
