"""Kept sums, and what they part (points 2 and 13)."""

import itertools
import math
import unittest
from fractions import Fraction

from crowdsay.customs import Custom
from crowdsay.meetings import trail
from crowdsay.sums import is_kept, kept_sums, parted_by, worth_of

GATES = (("inn", "z"),)
NO_ROWS = Custom(("z", "m", "a"), (), GATES)
# Of each a one half is of a z, and one of an m.
PAIR = Custom(("z", "m", "a"), (("z", "m", "a", "a"),), GATES)
DOUBLE = Custom(("z", "m", "a"), (("z", "z", "m", "a"),), GATES)
ALL_ALIKE = Custom(("z", "m", "a"), (("z", "m", "m", "m"), ("m", "a", "a", "a")), GATES)
BACK = Custom(("z", "m"), (("z", "z", "m", "m"),), GATES)
LADDER = Custom(
    ("z", "m", "a", "b"), (("z", "z", "z", "m"), ("m", "m", "m", "a"), ("a", "a", "z", "b")), GATES
)


def customs_of(kinds, step):
    pairs = list(itertools.combinations_with_replacement(kinds, 2))
    for number, ends in enumerate(itertools.product(pairs, repeat=len(pairs))):
        if number % step == 0:
            rows = tuple([one + other for one, other in zip(pairs, ends) if one != other])
            yield Custom(kinds, rows, (("inn", kinds[0]),))


def few_rows(kinds, step):
    """Customs of one row or two."""
    pairs = list(itertools.combinations_with_replacement(kinds, 2))
    rows = [one + other for one in pairs for other in pairs if one != other]
    for row in rows:
        yield Custom(kinds, (row,), (("inn", kinds[0]),))
    place = {kind: number for number, kind in enumerate(kinds)}
    twos = [(one, other) for one in rows for other in rows
            if [place[kind] for kind in one[:2]] < [place[kind] for kind in other[:2]]]
    for two in twos[::step]:
        yield Custom(kinds, two, (("inn", kinds[0]),))


def changes_of(custom):
    place = {kind: number for number, kind in enumerate(custom.kinds)}
    for a, b, c, d in custom.rows:
        change = [0] * len(custom.kinds)
        for kind, more in ((a, -1), (b, -1), (c, 1), (d, 1)):
            change[place[kind]] += more
        yield change


def echelon(rows):
    """Rows in their one reduced form, by fractions."""
    rows = [[Fraction(number) for number in row] for row in rows]
    done = []
    for place in range(len(rows[0]) if rows else 0):
        having = [row for row in rows if row[place] != 0]
        if having:
            first = [number / having[0][place] for number in having[0]]
            rows.remove(having[0])
            rows = [[one - row[place] * other for one, other in zip(row, first)] for row in rows]
            done = [[one - row[place] * other for one, other in zip(row, first)] for row in done]
            done.append(first)
    return done


def plain_sums(custom):
    many = len(custom.kinds)
    reduced = echelon(list(changes_of(custom)))
    firsts = [[number != 0 for number in row].index(True) for row in reduced]
    found = []
    for place in range(many):
        if place not in firsts:
            numbers = [Fraction(0)] * many
            numbers[place] = Fraction(1)
            for first, row in zip(firsts, reduced):
                numbers[first] = -row[place]
            found.append(numbers)
    told = []
    for row in echelon(found):
        whole = math.lcm(*[number.denominator for number in row])
        row = [int(number * whole) for number in row]
        told.append(tuple([number // math.gcd(*row) for number in row]))
    return told


class KeptSumsTest(unittest.TestCase):
    def test_all_is_defined_in_this_file(self):
        for thing in (kept_sums, is_kept, worth_of, parted_by):
            self.assertEqual(thing.__module__, "crowdsay.sums")

    def test_of_a_custom_without_rows(self):
        self.assertEqual(kept_sums(NO_ROWS), [(1, 0, 0), (0, 1, 0), (0, 0, 1)])

    def test_where_nothing_but_the_number_of_folk_is_kept(self):
        self.assertEqual(kept_sums(ALL_ALIKE), [(1, 1, 1)])
        self.assertEqual(kept_sums(BACK), [(1, 1)])
        self.assertEqual(kept_sums(LADDER), [(1, 1, 1, 1)])

    def test_several_sums(self):
        self.assertEqual(kept_sums(PAIR), [(2, 0, 1), (0, 2, 1)])
        self.assertEqual(kept_sums(DOUBLE), [(1, 0, 2), (0, 1, -1)])

    def test_without_a_common_part_and_the_first_one_above_nought(self):
        custom = Custom(("z", "m", "a", "b"), (("z", "m", "a", "b"),), GATES)
        self.assertEqual(kept_sums(custom), [(1, 0, 0, 1), (0, 1, 0, 1), (0, 0, 1, -1)])
        custom = Custom(("z", "m", "a", "b"), (("z", "z", "m", "b"), ("a", "a", "b", "b")), GATES)
        self.assertEqual(kept_sums(custom), [(1, 0, 2, 2), (0, 1, -1, -1)])

    def test_numbers_above_one_at_the_first_place(self):
        self.assertEqual(kept_sums(PAIR), [(2, 0, 1), (0, 2, 1)])
        rows = (("z", "m", "m", "a"), ("a", "a", "a", "b"))
        self.assertEqual(kept_sums(Custom(("z", "m", "a", "b"), rows, GATES)), [(1, 0, 1, 1), (0, 1, 0, 0)])
        rows = (("z", "z", "z", "m"), ("m", "a", "b", "b"))
        self.assertEqual(kept_sums(Custom(("z", "m", "a", "b"), rows, GATES)), [(2, 2, 0, 1), (0, 0, 2, 1)])

    def test_two_rows_that_hang_together(self):
        rows = (("z", "z", "m", "a"), ("m", "m", "z", "b"))
        self.assertEqual(kept_sums(Custom(("z", "m", "a", "b"), rows, GATES)), [(1, 0, 2, -1), (0, 1, -1, 2)])

    def test_their_form(self):
        for custom in [*few_rows(("z", "m", "a"), 3), *few_rows(("z", "m", "a", "b"), 29)]:
            told = kept_sums(custom)
            firsts = [[number != 0 for number in weights].index(True) for weights in told]
            self.assertEqual(firsts, sorted(set(firsts)))
            for weights, first in zip(told, firsts):
                self.assertEqual(len(weights), len(custom))
                self.assertEqual(math.gcd(*weights), 1)
                self.assertTrue(weights[first] > 0)
                self.assertEqual([other[first] for other in told if other != weights], [0] * (len(told) - 1))

    def test_against_fractions(self):
        customs = [*few_rows(("z", "m", "a"), 1), *few_rows(("z", "m", "a", "b"), 17), *customs_of(("z", "m"), 1)]
        for custom in [*customs, *customs_of(("z", "m", "a"), 211)]:
            with self.subTest(repr(custom)):
                self.assertEqual(kept_sums(custom), plain_sums(custom))

    def test_each_is_kept_by_what_comes(self):
        for weights in kept_sums(PAIR):
            worths = {worth_of(weights, crowd) for crowd in trail(PAIR, (5, 7, 1), [0] * 5)}
            self.assertEqual(len(worths), 1)

    def test_of_many_kinds_and_rows(self):
        letters = "abcdefghijklmnopqrstuvwxyz"
        kinds = tuple([one + other for one in "abc" for other in letters][:60])
        pairs = itertools.combinations_with_replacement(range(60), 2)
        rows = []
        for one, other in pairs:
            low = max(0, one + other - 59)
            if (low, one + other - low) != (one, other):
                rows.append(tuple([kinds[place] for place in (one, other, low, one + other - low)]))
        custom = Custom(kinds, tuple(rows), (("inn", kinds[0]),), most=60)
        first = (1, 0, *[1 - place for place in range(2, 60)])
        self.assertEqual(kept_sums(custom), [first, tuple(range(60))])

    def test_the_told_list_is_new_and_the_askers_own(self):
        told = kept_sums(PAIR)
        self.assertIs(type(told), list)
        self.assertTrue(all(type(weights) is tuple for weights in told))
        self.assertTrue(all(type(number) is int for weights in told for number in weights))
        told.clear()
        self.assertEqual(kept_sums(PAIR), [(2, 0, 1), (0, 2, 1)])

    def test_nothing_of_the_custom_changes(self):
        shown = repr(LADDER)
        kept_sums(LADDER)
        is_kept(LADDER, (1, 2, 3, 4))
        parted_by(LADDER, (1, 0, 0, 0), (0, 1, 0, 0))
        self.assertEqual(repr(LADDER), shown)


class IsKeptTest(unittest.TestCase):
    def test_with_by_left_out(self):
        self.assertIs(is_kept(PAIR, (1, 1, 1)), True)
        self.assertIs(is_kept(PAIR, (1, -1, 0)), True)
        self.assertIs(is_kept(PAIR, (0, 2, 1)), True)
        self.assertIs(is_kept(PAIR, (0, 0, 0)), True)
        self.assertIs(is_kept(PAIR, (1, 0, 0)), False)
        self.assertIs(is_kept(PAIR, (1, 1, 0)), False)
        self.assertIs(is_kept(PAIR, (0, 0, 1)), False)

    def test_no_row_may_change_it(self):
        self.assertIs(is_kept(ALL_ALIKE, (1, 1, 0)), False)
        self.assertIs(is_kept(ALL_ALIKE, (0, 1, 1)), False)
        self.assertIs(is_kept(ALL_ALIKE, (7, 7, 7)), True)

    def test_without_rows_each_is(self):
        for by in (0, 1, 2, 5):
            self.assertIs(is_kept(NO_ROWS, (1, 2, 3), by=by), True)

    def test_by_nought_is_as_left_out(self):
        self.assertIs(is_kept(PAIR, (1, 0, 0), by=0), False)
        self.assertIs(is_kept(PAIR, (1, -1, 0), by=0), True)

    def test_by_one_each_is(self):
        for weights in ((1, 0, 0), (0, 5, 7), (-1, 2, -3)):
            self.assertIs(is_kept(PAIR, weights, by=1), True)
            self.assertIs(is_kept(LADDER, (*weights, 4), by=1), True)

    def test_by_a_number_that_parts_each_change(self):
        self.assertIs(is_kept(PAIR, (1, 1, 0), by=2), True)
        self.assertIs(is_kept(PAIR, (1, 1, 0), by=3), False)
        self.assertIs(is_kept(PAIR, (0, 0, 3), by=2), True)
        self.assertIs(is_kept(PAIR, (0, 0, 3), by=3), True)
        self.assertIs(is_kept(PAIR, (0, 0, 3), by=6), True)
        self.assertIs(is_kept(PAIR, (0, 0, 3), by=4), False)
        self.assertIs(is_kept(PAIR, (0, 0, 3), by=12), False)
        self.assertIs(is_kept(BACK, (1, 0), by=2), True)
        self.assertIs(is_kept(BACK, (1, 2), by=2), True)
        self.assertIs(is_kept(BACK, (1, 2), by=5), False)

    def test_a_change_below_nought_is_parted_too(self):
        self.assertIs(is_kept(BACK, (3, 0), by=6), True)
        self.assertIs(is_kept(BACK, (0, 3), by=6), True)
        self.assertIs(is_kept(BACK, (3, 0), by=4), False)
        self.assertIs(is_kept(BACK, (0, 3), by=4), False)

    def test_each_row_counts(self):
        self.assertIs(is_kept(LADDER, (0, 3, 6, 9), by=3), True)
        self.assertIs(is_kept(LADDER, (0, 3, 6, 8), by=3), False)
        self.assertIs(is_kept(LADDER, (0, 2, 6, 9), by=3), False)

    def test_against_all_changes(self):
        for custom in few_rows(("z", "m", "a"), 11):
            for weights in itertools.product((-2, 0, 1, 3), repeat=3):
                changes = [worth_of(weights, change) for change in changes_of(custom)]
                self.assertIs(is_kept(custom, weights), not any(changes))
                for by in (1, 2, 3, 4):
                    self.assertIs(is_kept(custom, weights, by=by), not any(change % by for change in changes))

    def test_great_numbers(self):
        great = 10 ** 60
        self.assertIs(is_kept(PAIR, (great, -great, 0)), True)
        self.assertIs(is_kept(PAIR, (great, 1 - great, 0)), False)
        self.assertIs(is_kept(PAIR, (great, 0, 0), by=great), True)
        self.assertIs(is_kept(PAIR, (great, 0, 0), by=great + 1), False)

    def test_by_name(self):
        self.assertIs(is_kept(by=2, weights=(1, 1, 0), custom=PAIR), True)
        with self.assertRaises(TypeError):
            is_kept(PAIR, (1, 1, 0), 2)


class WorthOfTest(unittest.TestCase):
    def test_each_count_times_its_number(self):
        self.assertEqual(worth_of((1, 1, 1), (2, 3, 4)), 9)
        self.assertEqual(worth_of((1, -2, 0), (2, 3, 4)), -4)
        self.assertEqual(worth_of((0, 0), (300, 0)), 0)
        self.assertEqual(worth_of((-1, 2), (300, 0)), -300)
        self.assertEqual(worth_of((10 ** 60, 1), (3, 2)), 3 * 10 ** 60 + 2)

    def test_by_name(self):
        self.assertEqual(worth_of(crowd=(2, 3), weights=(5, 7)), 31)


class PartedByTest(unittest.TestCase):
    def test_the_first_sum_whose_worths_differ(self):
        self.assertEqual(parted_by(PAIR, (2, 1, 0), (1, 1, 1)), (2, 0, 1))
        self.assertEqual(parted_by(PAIR, (2, 1, 0), (3, 2, 0)), (2, 0, 1))
        self.assertEqual(parted_by(PAIR, (2, 1, 0), (1, 1, 2)), (0, 2, 1))
        self.assertEqual(parted_by(NO_ROWS, (1, 2, 3), (1, 3, 2)), (0, 1, 0))
        self.assertEqual(parted_by(NO_ROWS, (1, 2, 3), (1, 2, 4)), (0, 0, 1))
        self.assertEqual(parted_by(NO_ROWS, (1, 2, 3), (0, 1, 0)), (1, 0, 0))

    def test_none_where_none_differs(self):
        self.assertIsNone(parted_by(PAIR, (2, 1, 0), (2, 1, 0)))
        self.assertIsNone(parted_by(PAIR, (2, 1, 0), (1, 0, 2)))
        self.assertIsNone(parted_by(PAIR, (1, 0, 2), (2, 1, 0)))
        self.assertIsNone(parted_by(ALL_ALIKE, (3, 0, 0), (0, 0, 3)))

    def test_by_how_many_folk_there_are(self):
        self.assertEqual(parted_by(ALL_ALIKE, (3, 0, 0), (0, 0, 4)), (1, 1, 1))

    def test_it_is_one_of_the_kept_sums(self):
        for custom in few_rows(("z", "m", "a"), 19):
            sums = kept_sums(custom)
            for other in itertools.product(range(3), repeat=3):
                told = parted_by(custom, (1, 1, 1), other)
                differing = [one for one in sums if worth_of(one, (1, 1, 1)) != worth_of(one, other)]
                self.assertEqual(told, differing[0] if differing else None)

    def test_a_tuple(self):
        self.assertIs(type(parted_by(PAIR, (2, 1, 0), (1, 1, 1))), tuple)

    def test_by_name(self):
        self.assertEqual(parted_by(other=(1, 1, 1), one=(2, 1, 0), custom=PAIR), (2, 0, 1))


if __name__ == "__main__":
    unittest.main()
