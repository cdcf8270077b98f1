"""Rounds, and what crowds say, agree on and are sure of (points 2, 8 and 9)."""

import itertools
import unittest

from crowdsay.comings import comes
from crowdsay.customs import Custom
from crowdsay.errors import TooMany
from crowdsay.rounds import agrees, rounds, says, sure

GATES = (("inn", "z"),)
# It goes on for ever, and all crowds of its rounds but the first have an m.
SWING_ROWS = (("z", "z", "z", "m"), ("z", "m", "z", "z"))
NO_ROWS = Custom(("z", "m"), (), GATES, yes=("m",))
# Where two z's meet first, both rest as m and a; else they may both become b.
FORK_KINDS = ("z", "m", "a", "b")
FORK_ROWS = (("z", "z", "m", "m"), ("z", "m", "a", "a"), ("z", "a", "b", "b"))
FEW = Custom(("n", "y"), (("n", "y", "y", "y"),), (("a", "n"), ("b", "y")), yes=("y",))
# 1 + (x + 1) times (p + 1) crowds come where there is an e and a g, else one fewer.
GRID_KINDS = ("e", "g", "s", "f", "x", "y", "p", "q")
GRID_ROWS = (("e", "g", "s", "f"), ("s", "x", "s", "y"), ("s", "p", "s", "q"))
GRID = Custom(GRID_KINDS, GRID_ROWS, (("inn", "e"),), yes=GRID_KINDS)
JUST_ENOUGH = (0, 0, 1, 1, 19, 0, 19, 0)
ONE_TOO_MANY = (1, 1, 0, 0, 19, 0, 19, 0)


def swing(*yes):
    return Custom(("z", "m"), SWING_ROWS, GATES, yes=yes)


def fork(*yes):
    return Custom(FORK_KINDS, FORK_ROWS, GATES, yes=yes)


def customs_of(kinds, step):
    """Each step-th one of all customs of these kinds, with all they may say by turns."""
    pairs = list(itertools.combinations_with_replacement(kinds, 2))
    yeses = [yes for many in range(len(kinds) + 1) for yes in itertools.combinations(kinds, many)]
    for number, ends in enumerate(itertools.product(pairs, repeat=len(pairs))):
        if number % step == 0:
            rows = tuple([one + other for one, other in zip(pairs, ends) if one != other])
            yield Custom(kinds, rows, (("inn", kinds[0]),), yes=yeses[number // step % len(yeses)])


def crowds_of(many_kinds, most_folk):
    for crowd in itertools.product(range(most_folk + 1), repeat=many_kinds):
        if 1 <= sum(crowd) <= most_folk:
            yield crowd


def plain_rounds(custom, crowd):
    found = []
    for one in comes(custom, crowd):
        these = comes(custom, one)
        if these not in found and all([comes(custom, other) == these for other in these]):
            found.append(these)
    return sorted(found)


def plain_agrees(custom, crowd):
    said = {kind in custom.yes for kind, many in zip(custom.kinds, crowd) if many}
    return None if len(said) == 2 else {True: "yes", False: "no"}[said.pop()]


def plain_word(custom, crowds):
    words = {plain_agrees(custom, crowd) for crowd in crowds}
    return words.pop() if len(words) == 1 else None


ALL_CUSTOMS = [*customs_of(("z", "m"), 1), *customs_of(("m", "z"), 2), *customs_of(("z", "m", "a"), 631)]


class RoundsTest(unittest.TestCase):
    def test_all_is_defined_in_this_file(self):
        for thing in (rounds, agrees, says, sure):
            self.assertEqual(thing.__module__, "crowdsay.rounds")

    def test_a_crowd_that_rests_is_a_round_by_itself(self):
        self.assertEqual(rounds(NO_ROWS, (3, 4)), [[(3, 4)]])
        self.assertEqual(rounds(FEW, (0, 4)), [[(0, 4)]])
        self.assertEqual(rounds(swing(), (1, 0)), [[(1, 0)]])

    def test_only_the_crowds_of_the_end(self):
        self.assertEqual(rounds(FEW, (3, 1)), [[(0, 4)]])
        self.assertEqual(rounds(FEW, (4, 0)), [[(4, 0)]])

    def test_crowds_that_go_on_for_ever(self):
        self.assertEqual(rounds(swing(), (3, 0)), [[(1, 2), (2, 1), (3, 0)]])
        self.assertEqual(rounds(swing(), (2, 1)), [[(1, 2), (2, 1), (3, 0)]])
        self.assertEqual(rounds(swing(), (12, 0)), [[(z, 12 - z) for z in range(1, 13)]])

    def test_several_rounds_by_their_first_crowds(self):
        self.assertEqual(rounds(fork(), (4, 0, 0, 0)), [[(0, 0, 4, 0)], [(0, 1, 1, 2)], [(0, 4, 0, 0)]])
        self.assertEqual(rounds(fork(), (1, 2, 0, 0)), [[(0, 1, 2, 0)]])

    def test_rounds_of_several_crowds_beside_one_another(self):
        custom = Custom(
            ("z", "m", "a", "b"),
            (
                ("z", "z", "m", "m"), ("z", "m", "a", "a"), ("m", "m", "m", "b"), ("m", "b", "m", "m"),
                ("a", "a", "a", "b"), ("a", "b", "a", "a"),
            ),
            GATES,
        )
        self.assertEqual(rounds(custom, (2, 0, 0, 0)), [[(0, 1, 0, 1), (0, 2, 0, 0)]])
        self.assertEqual(rounds(custom, (1, 1, 0, 0)), [[(0, 0, 1, 1), (0, 0, 2, 0)]])

    def test_against_what_comes_from_each(self):
        for custom in ALL_CUSTOMS:
            for crowd in crowds_of(len(custom), 4):
                with self.subTest(custom=repr(custom), crowd=crowd):
                    self.assertEqual(rounds(custom, crowd), plain_rounds(custom, crowd))

    def test_of_as_many_as_may_come(self):
        self.assertEqual(rounds(GRID, JUST_ENOUGH), [[(0, 0, 1, 1, 0, 19, 0, 19)]])
        self.assertEqual(rounds(swing(), (300, 0)), [[(z, 300 - z) for z in range(1, 301)]])

    def test_more_than_four_hundred(self):
        for ask in (rounds, says, sure):
            with self.subTest(ask.__name__):
                with self.assertRaises(TooMany) as caught:
                    ask(GRID, ONE_TOO_MANY)
                self.assertEqual(caught.exception.most, 400)
                ask(GRID, JUST_ENOUGH)

    def test_the_told_lists_are_new_and_the_askers_own(self):
        told = rounds(fork(), (4, 0, 0, 0))
        self.assertIs(type(told), list)
        self.assertTrue(all(type(one) is list for one in told))
        self.assertTrue(all(type(crowd) is tuple for one in told for crowd in one))
        told[0].clear()
        told.pop()
        self.assertEqual(rounds(fork(), (4, 0, 0, 0)), [[(0, 0, 4, 0)], [(0, 1, 1, 2)], [(0, 4, 0, 0)]])

    def test_by_name(self):
        self.assertEqual(rounds(crowd=(3, 1), custom=FEW), [[(0, 4)]])
        self.assertEqual(says(crowd=(3, 1), custom=FEW), "yes")
        self.assertEqual(sure(crowd=(3, 1), custom=FEW), None)
        self.assertEqual(agrees(crowd=(3, 0), custom=FEW), "no")

    def test_nothing_of_the_custom_changes(self):
        custom = fork("m")
        shown = repr(custom)
        for ask in (rounds, says, sure, agrees):
            ask(custom, (4, 0, 0, 0))
        self.assertEqual(repr(custom), shown)


class AgreesTest(unittest.TestCase):
    def test_where_each_says_yes(self):
        self.assertEqual(agrees(FEW, (0, 1)), "yes")
        self.assertEqual(agrees(FEW, (0, 300)), "yes")
        self.assertEqual(agrees(fork("m", "b"), (0, 2, 0, 5)), "yes")

    def test_where_each_says_no(self):
        self.assertEqual(agrees(FEW, (1, 0)), "no")
        self.assertEqual(agrees(fork("m", "b"), (3, 0, 1, 0)), "no")
        self.assertEqual(agrees(fork(), (1, 1, 1, 1)), "no")

    def test_where_they_do_not_say_one_thing(self):
        self.assertIsNone(agrees(FEW, (1, 1)))
        self.assertIsNone(agrees(FEW, (1, 299)))
        self.assertIsNone(agrees(fork("b"), (1, 1, 1, 1)))
        self.assertIsNone(agrees(fork("z", "m", "a"), (1, 0, 0, 1)))

    def test_it_is_not_what_comes_that_counts(self):
        self.assertEqual(agrees(swing("z"), (2, 0)), "yes")
        self.assertEqual(agrees(fork("m"), (4, 0, 0, 0)), "no")

    def test_of_however_many_that_come(self):
        self.assertEqual(agrees(GRID, ONE_TOO_MANY), "yes")
        self.assertEqual(agrees(GRID, (1, 1, 0, 0, 149, 0, 149, 0)), "yes")

    def test_against_plain_words(self):
        for custom in ALL_CUSTOMS:
            for crowd in crowds_of(len(custom), 3):
                self.assertEqual(agrees(custom, crowd), plain_agrees(custom, crowd))


class SaysTest(unittest.TestCase):
    def test_of_crowds_that_rest(self):
        self.assertEqual(says(NO_ROWS, (0, 4)), "yes")
        self.assertEqual(says(NO_ROWS, (4, 0)), "no")
        self.assertEqual(says(NO_ROWS, (3, 4)), "split")

    def test_of_crowds_that_come_to_rest(self):
        self.assertEqual(says(FEW, (3, 1)), "yes")
        self.assertEqual(says(FEW, (299, 1)), "yes")
        self.assertEqual(says(FEW, (300, 0)), "no")
        self.assertEqual(says(FEW, (1, 0)), "no")

    def test_of_crowds_that_go_on_for_ever(self):
        self.assertEqual(says(swing("z", "m"), (3, 0)), "yes")
        self.assertEqual(says(swing(), (3, 0)), "no")
        self.assertEqual(says(swing("z"), (3, 0)), "split")
        self.assertEqual(says(swing("m"), (3, 0)), "split")
        self.assertEqual(says(swing("z"), (1, 0)), "yes")

    def test_of_rounds_that_do_not_say_one_thing(self):
        self.assertEqual(says(fork("m", "a", "b"), (4, 0, 0, 0)), "yes")
        self.assertEqual(says(fork("z"), (4, 0, 0, 0)), "no")
        self.assertEqual(says(fork("m", "a"), (4, 0, 0, 0)), "split")
        self.assertEqual(says(fork("a", "b"), (4, 0, 0, 0)), "split")
        self.assertEqual(says(fork("a", "b"), (1, 2, 0, 0)), "split")

    def test_of_one_round_of_yes_and_one_of_no(self):
        rows = (("z", "z", "m", "m"), ("z", "m", "a", "a"), ("z", "a", "a", "a"), ("m", "a", "a", "a"))
        custom = Custom(("z", "m", "a"), rows, GATES, yes=("a",))
        self.assertEqual(rounds(custom, (4, 0, 0)), [[(0, 0, 4)], [(0, 4, 0)]])
        self.assertEqual(says(custom, (4, 0, 0)), "split")
        self.assertEqual(says(custom, (3, 0, 0)), "yes")
        self.assertEqual(says(custom, (2, 0, 0)), "no")

    def test_against_plain_rounds(self):
        for custom in ALL_CUSTOMS:
            for crowd in crowds_of(len(custom), 3):
                with self.subTest(custom=repr(custom), crowd=crowd):
                    crowds = [one for these in plain_rounds(custom, crowd) for one in these]
                    self.assertEqual(says(custom, crowd), plain_word(custom, crowds) or "split")


class SureTest(unittest.TestCase):
    def test_where_all_that_come_agree(self):
        self.assertEqual(sure(FEW, (0, 4)), "yes")
        self.assertEqual(sure(FEW, (4, 0)), "no")
        self.assertEqual(sure(swing("z", "m"), (3, 0)), "yes")
        self.assertEqual(sure(swing(), (3, 0)), "no")
        self.assertEqual(sure(fork("m", "a", "b"), (0, 2, 2, 0)), "yes")

    def test_where_the_crowd_itself_does_not(self):
        self.assertIsNone(sure(FEW, (3, 1)))
        self.assertIsNone(sure(fork("m", "a", "b"), (4, 0, 0, 0)))
        self.assertIsNone(sure(NO_ROWS, (3, 4)))

    def test_where_one_between_does_not(self):
        custom = Custom(("z", "m", "a"), (("z", "z", "z", "m"), ("z", "m", "z", "a")), GATES, yes=("z", "a"))
        self.assertEqual(agrees(custom, (3, 0, 0)), "yes")
        self.assertEqual(says(custom, (3, 0, 0)), "yes")
        self.assertIsNone(sure(custom, (3, 0, 0)))
        self.assertIsNone(sure(custom, (2, 0, 1)))
        self.assertEqual(sure(custom, (1, 0, 2)), "yes")

    def test_where_it_only_agrees_now(self):
        self.assertIsNone(sure(swing("z"), (2, 0)))
        self.assertIsNone(sure(fork("m", "a", "b"), (2, 0, 0, 0)))

    def test_one_that_turns_from_no_to_yes(self):
        custom = Custom(("z", "m"), (("z", "z", "m", "m"),), GATES, yes=("m",))
        self.assertIsNone(sure(custom, (2, 0)))
        self.assertEqual(says(custom, (2, 0)), "yes")

    def test_against_all_that_come(self):
        for custom in ALL_CUSTOMS:
            for crowd in crowds_of(len(custom), 4):
                with self.subTest(custom=repr(custom), crowd=crowd):
                    self.assertEqual(sure(custom, crowd), plain_word(custom, comes(custom, crowd)))


if __name__ == "__main__":
    unittest.main()
