"""Customs' texts, read back."""

from crowdsay.customs import FEW_KINDS, Custom, is_word, why_no_custom
from crowdsay.errors import NoText

_FEWEST_LINES = 3


def _are_behind(parts, word, fewest, most):
    """Tell whether the parts are the word and then from so few to so many words."""
    return parts[0] == word and fewest <= len(parts) - 1 <= most and all([is_word(part) for part in parts[1:]])


def _is_row(parts):
    return len(parts) == 5 and parts[2] == "to" and all([is_word(part) for part in parts])


def _is_gate(parts):
    return len(parts) == 4 and parts[0] == "gate" and parts[2] == "is" and all([is_word(part) for part in parts])


def _is_line(lines, number, most):
    """Tell whether the line, parted, is one by itself, at its place among the lines."""
    parts = lines[number]
    if number == 0:
        return _are_behind(parts, "kinds", 2, most)
    if number == len(lines) - 1:
        return _are_behind(parts, "yes", 0, most)
    return _is_row(parts) or _is_gate(parts)


def _lines_of(text, most):
    lines = [line.split(" ") for line in text.split("\n")]
    if len(lines) < _FEWEST_LINES:
        raise NoText(0)
    for number in range(len(lines)):
        if not _is_line(lines, number, most):
            raise NoText(number)
    return lines


def read_custom(text, *, most=FEW_KINDS):
    """Tell the custom that is written as this text, or refuse it with NoText, or NoCustom."""
    lines = _lines_of(text, most)
    between = lines[1:-1]
    row_lines = [parts for parts in between if _is_row(parts)]
    gate_lines = [parts for parts in between if _is_gate(parts)]
    kinds = tuple(lines[0][1:])
    rows = tuple([(a, b, c, d) for a, b, _, c, d in row_lines])
    gates = tuple([(word, kind) for _, word, _, kind in gate_lines])
    yes = tuple(lines[-1][1:])
    # By themselves all lines are such, so the shape is wrong only where there are too many or too few of them.
    is_shape_wrong = why_no_custom(kinds, rows, gates, yes=yes, most=most) == "shape"
    if is_shape_wrong or between != row_lines + gate_lines:
        raise NoText(0)
    return Custom(kinds, rows, gates, yes=yes, most=most)
