"""Customs: the kinds that folk are of, what becomes of two that meet, gates to come by, and who says yes."""

from crowdsay.errors import NoCustom

FEW_KINDS = 8
MOST_KINDS = 60

_LONGEST_WORD = 8
_MOST_GATES = 3


def is_word(thing):
    """Tell whether the thing, whatever it is, is a word: a text of one to eight small letters."""
    if not isinstance(thing, str) or not 1 <= len(thing) <= _LONGEST_WORD:
        return False
    return all(["a" <= letter <= "z" for letter in thing])


def _are_words(thing, fewest, most):
    if not isinstance(thing, tuple) or not fewest <= len(thing) <= most:
        return False
    return all([is_word(part) for part in thing])


def _are_tuples_of_words(thing, fewest, most, length):
    if not isinstance(thing, tuple) or not fewest <= len(thing) <= most:
        return False
    return all([_are_words(part, length, length) for part in thing])


def _have_shape(kinds, rows, gates, yes, most):
    return (
        _are_words(kinds, 2, most)
        and _are_tuples_of_words(rows, 0, most * (most + 1) // 2, 4)
        and _are_tuples_of_words(gates, 1, _MOST_GATES, 2)
        and _are_words(yes, 0, most)
    )


def _is_any_twice(words):
    return len(set(words)) < len(words)


def _places_of(kinds):
    return {kind: place for place, kind in enumerate(kinds)}


def _have_names(kinds, rows, gates, yes):
    if _is_any_twice(kinds) or _is_any_twice([word for word, _ in gates]):
        return False
    used = [kind for row in rows for kind in row] + [kind for _, kind in gates] + list(yes)
    places = _places_of(kinds)
    return all([kind in places for kind in used])


def _steps_of(kinds, rows):
    places = _places_of(kinds)
    return tuple([tuple([places[kind] for kind in row]) for row in rows])


def _is_step_in_order(step):
    a, b, c, d = step
    return a <= b and c <= d and (a, b) != (c, d)


def _do_rise(things):
    return all([one < other for one, other in zip(things, things[1:])])


def _have_order(kinds, rows, yes):
    steps = _steps_of(kinds, rows)
    places = _places_of(kinds)
    return (
        all([_is_step_in_order(step) for step in steps])
        and _do_rise([step[:2] for step in steps])
        and _do_rise([places[kind] for kind in yes])
    )


def why_no_custom(kinds, rows, gates, *, yes=(), most=FEW_KINDS):
    """Tell why the four, whatever they are, make no custom: "shape", "names", "order", or None."""
    if not _have_shape(kinds, rows, gates, yes, most):
        return "shape"
    if not _have_names(kinds, rows, gates, yes):
        return "names"
    if not _have_order(kinds, rows, yes):
        return "order"
    return None


def _lines_of(custom):
    rows = [f"{a} {b} to {c} {d}" for a, b, c, d in custom.rows]
    gates = [f"gate {word} is {kind}" for word, kind in custom.gates]
    return [" ".join(["kinds", *custom.kinds]), *rows, *gates, " ".join(["yes", *custom.yes])]


class Custom:
    """A custom, which stays as it is made."""

    def __init__(self, kinds, rows, gates, *, yes=(), most=FEW_KINDS):
        fault = why_no_custom(kinds, rows, gates, yes=yes, most=most)
        if fault is not None:
            raise NoCustom(fault)
        self.kinds = kinds
        self.rows = rows
        self.gates = gates
        self.yes = yes
        # The rows by their kinds' places: of one custom the rows of very many crowds are asked for.
        self.steps = _steps_of(kinds, rows)

    def __eq__(self, other):
        return (
            isinstance(other, Custom)
            and self.kinds == other.kinds
            and self.rows == other.rows
            and self.gates == other.gates
            and self.yes == other.yes
        )

    def __len__(self):
        return len(self.kinds)

    def __str__(self):
        return "\n".join(_lines_of(self))

    def __repr__(self):
        return f"Custom({self.kinds!r}, {self.rows!r}, {self.gates!r}, yes={self.yes!r})"


def place_of(custom, kind):
    """Tell a kind's place among the custom's kinds."""
    return custom.kinds.index(kind)


def says_yes(custom, kind):
    """Tell whether this kind says yes."""
    return kind in custom.yes
