"""Means of meetings and chances of rounds, as exact shares (points 2, 8 and 12)."""

import itertools
import unittest
from fractions import Fraction

from crowdsay import means
from crowdsay.comings import comes
from crowdsay.customs import Custom
from crowdsay.errors import TooMany
from crowdsay.means import chances, mean
from crowdsay.rounds import agrees, rounds, says, sure
from crowdsay.shares import Share

GATES = (("inn", "z"),)
FEW = Custom(("n", "y"), (("n", "y", "y", "y"),), (("a", "n"), ("b", "y")), yes=("y",))
SWING = Custom(("z", "m"), (("z", "z", "z", "m"), ("z", "m", "z", "z")), GATES, yes=("z",))
# 1 + (x + 1) times (p + 1) crowds come where there is an e and a g, else one fewer.
GRID_KINDS = ("e", "g", "s", "f", "x", "y", "p", "q")
GRID_ROWS = (("e", "g", "s", "f"), ("s", "x", "s", "y"), ("s", "p", "s", "q"))
GRID = Custom(GRID_KINDS, GRID_ROWS, (("inn", "e"),), yes=GRID_KINDS)
FORK_ROWS = (("z", "z", "m", "m"), ("z", "m", "a", "a"), ("z", "a", "a", "b"))


def fork(*yes):
    return Custom(("z", "m", "a", "b"), FORK_ROWS, GATES, yes=yes)


def customs_of(kinds, step):
    """Each step-th one of all customs of these kinds, with all they may say by turns."""
    pairs = list(itertools.combinations_with_replacement(kinds, 2))
    yeses = [yes for many in range(len(kinds) + 1) for yes in itertools.combinations(kinds, many)]
    for number, ends in enumerate(itertools.product(pairs, repeat=len(pairs))):
        if number % step == 0:
            rows = tuple([one + other for one, other in zip(pairs, ends) if one != other])
            yield Custom(kinds, rows, (("inn", kinds[0]),), yes=yeses[number // step % len(yeses)])


def crowds_of(many_kinds, most_folk):
    for crowd in itertools.product(range(most_folk + 1), repeat=many_kinds):
        if 1 <= sum(crowd) <= most_folk:
            yield crowd


def next_ones(custom, crowd):
    """The crowds behind one meeting and their chances, by letting each two of the folk meet."""
    folk = [kind for kind, many in zip(custom.kinds, crowd) for _ in range(many)]
    ends = {row[:2]: row[2:] for row in custom.rows}
    place = {kind: number for number, kind in enumerate(custom.kinds)}
    pairs = list(itertools.combinations(range(len(folk)), 2))
    found = {}
    for one, other in pairs:
        after = list(folk)
        two = tuple(sorted((folk[one], folk[other]), key=place.get))
        after[one], after[other] = ends.get(two, two)
        come = tuple([after.count(kind) for kind in custom.kinds])
        found[come] = found.get(come, 0) + Fraction(1, len(pairs))
    return found


def solved(rows):
    """What the unknown ones are, where each row tells their numbers and, last, the worth."""
    rows = [list(row) for row in rows]
    for place in range(len(rows)):
        first = [number for number in range(place, len(rows)) if rows[number][place] != 0][0]
        rows[place], rows[first] = rows[first], rows[place]
        rows[place] = [number / rows[place][place] for number in rows[place]]
        for number, row in enumerate(rows):
            if number != place:
                rows[number] = [one - row[place] * other for one, other in zip(row, rows[place])]
    return [row[-1] for row in rows]


def from_each(custom, crowds, worth_now, worth_of_others):
    """By crowd a worth that is worth_now and the mean of the worths behind one meeting."""
    rows = []
    for crowd in crowds:
        coming = next_ones(custom, crowd)
        row = [Fraction(crowd == other) - coming.get(other, 0) for other in crowds]
        known = sum([chance * worth_of_others(come) for come, chance in coming.items() if come not in crowds])
        rows.append([*row, worth_now + known])
    return dict(zip(crowds, solved(rows)))


def plain_mean(custom, crowd):
    for a_round in rounds(custom, crowd):
        words = {agrees(custom, one) for one in a_round}
        if len(words) == 2 or None in words:
            return None
    unsure = [one for one in comes(custom, crowd) if sure(custom, one) is None]
    return from_each(custom, unsure, Fraction(1), lambda come: 0).get(crowd, Fraction(0))


def plain_chances(custom, crowd):
    all_rounds = rounds(custom, crowd)
    between = [one for one in comes(custom, crowd) if not any([one in a_round for a_round in all_rounds])]
    told = []
    for a_round in all_rounds:
        by_crowd = from_each(custom, between, Fraction(0), lambda come: Fraction(come in a_round))
        told.append(by_crowd.get(crowd, Fraction(1)))
    return told


def as_share(fraction):
    return None if fraction is None else Share(fraction.numerator, fraction.denominator)


ALL_CUSTOMS = [*customs_of(("z", "m"), 1), *customs_of(("m", "z"), 2), *customs_of(("z", "m", "a"), 631)]


class MeanTest(unittest.TestCase):
    def test_all_is_defined_in_this_file(self):
        for thing in (mean, chances):
            self.assertEqual(thing.__module__, "crowdsay.means")
        self.assertEqual(means.MOST_BETWEEN, 40)

    def test_each_two_are_alike_likely(self):
        self.assertEqual(mean(FEW, (1, 1)), Share(1))
        self.assertEqual(mean(FEW, (2, 1)), Share(3))
        self.assertEqual(mean(FEW, (1, 2)), Share(3, 2))
        self.assertEqual(mean(FEW, (3, 1)), Share(11, 2))
        self.assertEqual(mean(FEW, (1, 299)), Share(150))

    def test_meetings_that_change_nothing_count(self):
        idle = Custom(("n", "y", "o"), (("n", "y", "y", "y"),), (("a", "n"),), yes=("y", "o"))
        self.assertEqual(mean(idle, (1, 1, 0)), Share(1))
        self.assertEqual(mean(idle, (1, 1, 1)), Share(3))
        self.assertEqual(mean(idle, (1, 1, 2)), Share(6))

    def test_two_of_one_kind(self):
        both = Custom(("z", "m"), (("z", "z", "m", "m"),), GATES, yes=("m",))
        self.assertEqual(mean(both, (2, 0)), Share(1))
        self.assertEqual(mean(both, (2, 1)), Share(3))
        self.assertEqual(mean(both, (2, 2)), Share(6))
        self.assertEqual(mean(both, (4, 0)), Share(7))

    def test_nought_where_it_is_sure_at_once(self):
        self.assertEqual(mean(FEW, (0, 5)), Share(0))
        self.assertEqual(mean(FEW, (5, 0)), Share(0))
        all_yes = Custom(FEW.kinds, FEW.rows, FEW.gates, yes=("n", "y"))
        self.assertEqual(mean(all_yes, (3, 2)), Share(0))
        none_yes = Custom(SWING.kinds, SWING.rows, SWING.gates)
        self.assertEqual(mean(none_yes, (3, 2)), Share(0))

    def test_one_folk_alone(self):
        for crowd in ((1, 0), (0, 1)):
            self.assertEqual(mean(FEW, crowd), Share(0))
            self.assertEqual(mean(SWING, crowd), Share(0))
            self.assertEqual(chances(FEW, crowd), [Share(1)])

    def test_till_it_is_sure_not_till_the_round(self):
        rows = (("z", "z", "m", "m"), ("m", "m", "m", "a"))
        custom = Custom(("z", "m", "a"), rows, GATES, yes=("m", "a"))
        self.assertEqual(mean(custom, (2, 0, 0)), Share(1))
        self.assertEqual(mean(custom, (0, 3, 0)), Share(0))

    def test_none_where_a_round_is_of_unlike_words(self):
        self.assertIsNone(mean(SWING, (3, 0)))
        self.assertIsNone(mean(Custom(("z", "m"), (), GATES, yes=("z",)), (1, 1)))
        self.assertIsNone(mean(fork("m"), (4, 0, 0, 0)))

    def test_none_where_one_round_is_and_others_are_not(self):
        self.assertEqual(len(rounds(fork(), (4, 0, 0, 0))), 3)
        self.assertIsNone(mean(fork("m", "a"), (4, 0, 0, 0)))
        self.assertIsNotNone(mean(fork("m", "a", "b"), (4, 0, 0, 0)))
        for yes in ((), ("m",), ("a",), ("b",), ("m", "a"), ("a", "b"), ("m", "b"), ("m", "a", "b")):
            for crowd in ((3, 0, 0, 0), (4, 0, 0, 0), (5, 0, 0, 0), (2, 1, 1, 0)):
                self.assertEqual(mean(fork(*yes), crowd), as_share(plain_mean(fork(*yes), crowd)))

    def test_told_where_rounds_of_yes_and_rounds_of_no_come(self):
        rows = (("z", "z", "m", "m"), ("z", "m", "a", "a"), ("z", "a", "a", "a"), ("m", "a", "a", "a"))
        custom = Custom(("z", "m", "a"), rows, GATES, yes=("a",))
        self.assertEqual(says(custom, (4, 0, 0)), "split")
        told = mean(custom, (4, 0, 0))
        self.assertEqual(told, as_share(plain_mean(custom, (4, 0, 0))))
        self.assertTrue(told.top > 0)

    def test_against_fractions(self):
        for custom in ALL_CUSTOMS:
            for crowd in crowds_of(len(custom), 4):
                with self.subTest(custom=repr(custom), crowd=crowd):
                    self.assertEqual(mean(custom, crowd), as_share(plain_mean(custom, crowd)))

    def test_just_forty_between(self):
        self.assertEqual(mean(FEW, (40, 1)), as_share(sum([Fraction(820, n * (41 - n)) for n in range(1, 41)])))
        self.assertEqual(mean(FEW, (40, 260)), as_share(sum([Fraction(44850, n * (300 - n)) for n in range(1, 41)])))

    def test_forty_one_between(self):
        all_yes = Custom(FEW.kinds, FEW.rows, FEW.gates, yes=("n", "y"))
        mixed = Custom(("n", "y", "o"), FEW.rows, FEW.gates, yes=("y",))
        for custom, crowd in ((FEW, (41, 1)), (FEW, (299, 1)), (all_yes, (41, 1)), (mixed, (41, 1, 1))):
            for ask in (mean, chances):
                with self.subTest(ask=ask.__name__, custom=repr(custom)):
                    with self.assertRaises(TooMany) as caught:
                        ask(custom, crowd)
                    self.assertEqual(caught.exception.most, 40)

    def test_crowds_in_rounds_do_not_count_as_between(self):
        self.assertIsNone(mean(SWING, (300, 0)))
        self.assertEqual(chances(SWING, (300, 0)), [Share(1)])

    def test_more_than_four_hundred_ahead_of_it(self):
        for ask in (mean, chances):
            with self.assertRaises(TooMany) as caught:
                ask(GRID, (1, 1, 0, 0, 19, 0, 19, 0))
            self.assertEqual(caught.exception.most, 400)
            with self.assertRaises(TooMany) as caught:
                ask(GRID, (0, 0, 1, 1, 19, 0, 19, 0))
            self.assertEqual(caught.exception.most, 40)

    def test_a_share(self):
        self.assertIs(type(mean(FEW, (2, 1))), Share)
        self.assertIs(type(mean(FEW, (0, 1))), Share)

    def test_by_name(self):
        self.assertEqual(mean(crowd=(2, 1), custom=FEW), Share(3))
        self.assertEqual(chances(crowd=(2, 1), custom=FEW), [Share(1)])

    def test_nothing_of_the_custom_changes(self):
        custom = fork("m")
        shown = repr(custom)
        mean(custom, (4, 0, 0, 0))
        chances(custom, (4, 0, 0, 0))
        self.assertEqual(repr(custom), shown)


class ChancesTest(unittest.TestCase):
    def test_of_one_round(self):
        self.assertEqual(chances(FEW, (3, 1)), [Share(1)])
        self.assertEqual(chances(FEW, (0, 4)), [Share(1)])
        self.assertEqual(chances(SWING, (3, 0)), [Share(1)])

    def test_in_the_order_of_the_rounds(self):
        custom = fork("m")
        self.assertEqual(rounds(custom, (4, 0, 0, 0)), [[(0, 0, 4, 0)], [(0, 1, 2, 1)], [(0, 4, 0, 0)]])
        # Of (2, 2, 0, 0) one pair of z's changes it, or four of a z and an m; of (1, 1, 2, 0) one, or two.
        self.assertEqual(chances(custom, (4, 0, 0, 0)), [Share(4, 15), Share(8, 15), Share(1, 5)])

    def test_together_they_are_one(self):
        for crowd in ((4, 0, 0, 0), (6, 0, 0, 0), (5, 2, 1, 0), (8, 0, 0, 0)):
            told = chances(fork("m"), crowd)
            self.assertEqual(len(told), len(rounds(fork("m"), crowd)))
            total = Share(0)
            for share in told:
                self.assertTrue(share.top > 0)
                total = total.plus(share)
            self.assertEqual(total, Share(1))

    def test_whatever_the_rounds_say(self):
        for yes in ((), ("m",), ("a", "b"), ("z", "m", "a", "b")):
            self.assertEqual(chances(fork(*yes), (4, 0, 0, 0)), chances(fork("m"), (4, 0, 0, 0)))

    def test_against_fractions(self):
        for custom in ALL_CUSTOMS:
            for crowd in crowds_of(len(custom), 4):
                with self.subTest(custom=repr(custom), crowd=crowd):
                    expected = [as_share(chance) for chance in plain_chances(custom, crowd)]
                    self.assertEqual(chances(custom, crowd), expected)

    def test_of_more_folk_against_fractions(self):
        for crowd in ((6, 0, 0, 0), (3, 3, 1, 2), (2, 5, 3, 0)):
            self.assertEqual(chances(fork(), crowd), [as_share(chance) for chance in plain_chances(fork(), crowd)])
            self.assertEqual(mean(fork("z"), crowd), as_share(plain_mean(fork("z"), crowd)))

    def test_the_told_list_is_new_and_the_askers_own(self):
        told = chances(fork("m"), (4, 0, 0, 0))
        self.assertIs(type(told), list)
        self.assertTrue(all(type(share) is Share for share in told))
        told.clear()
        self.assertEqual(len(chances(fork("m"), (4, 0, 0, 0))), len(rounds(fork("m"), (4, 0, 0, 0))))


if __name__ == "__main__":
    unittest.main()
