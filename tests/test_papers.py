"""Papers of a crowd, told and looked over (points 2, 8 and 10)."""

import itertools
import unittest

from crowdsay.comings import comes, way
from crowdsay.customs import Custom
from crowdsay.errors import TooMany
from crowdsay.meetings import behind, can_be_done
from crowdsay.papers import is_paper, paper
from crowdsay.rounds import agrees, rounds, says, sure

GATES = (("inn", "z"),)
FEW = Custom(("n", "y"), (("n", "y", "y", "y"),), (("a", "n"), ("b", "y")), yes=("y",))
FEW_YES = ("yes", {(2, 1): 2, (1, 2): 1, (0, 3): 0})
# It goes on for ever, and its z's say yes.
SWING = Custom(("z", "m"), (("z", "z", "z", "m"), ("z", "m", "z", "z")), GATES, yes=("z",))
SWING_SPLIT = ("split", [([], [(1, 2), (2, 1), (3, 0)])])
# From four z's it ends with all m (no), with all a (yes), or with one m, one a and two b.
FORK_KINDS = ("z", "m", "a", "b")
FORK_ROWS = (("z", "z", "m", "m"), ("z", "m", "a", "a"), ("z", "a", "b", "b"))
ALL_Z = (4, 0, 0, 0)
ALL_M = ([0, 0], [(0, 4, 0, 0)])
ALL_A = ([0, 1, 1], [(0, 0, 4, 0)])
MIXED = ([0, 1, 2], [(0, 1, 1, 2)])
ONE_OF_EACH = Custom(FORK_KINDS, FORK_ROWS, GATES, yes=("a",))
# 1 + (x + 1) times (p + 1) crowds come where there is an e and a g, else one fewer.
GRID_KINDS = ("e", "g", "s", "f", "x", "y", "p", "q")
GRID_ROWS = (("e", "g", "s", "f"), ("s", "x", "s", "y"), ("s", "p", "s", "q"))
GRID = Custom(GRID_KINDS, GRID_ROWS, (("inn", "e"),), yes=GRID_KINDS)
JUST_ENOUGH = (0, 0, 1, 1, 19, 0, 19, 0)
ONE_TOO_MANY = (1, 1, 0, 0, 19, 0, 19, 0)

NOT_PAPERS = (
    None, True, False, 0, 1, -1, 10 ** 60, "", "yes", "no", "split", "ab", (), [], {}, ("yes",), ("split",), (1, 2),
    ("yes", None), ("yes", True), ("yes", 0), ("yes", "no"), ("yes", ()), ("yes", []), ("yes", {}), ("no", {}),
    ("yes", {}, {}), ("split", None), ("split", 0), ("split", ""), ("split", ()), ("split", []), ("split", {}),
    ("split", [[]]), ("split", [()]), ("split", [None]), ("split", [1, 2]), ("split", ["ab"]), ("split", [([], [])]),
    ("split", [([], {})]), ("split", [({}, [])]), ("split", [([], None)]), ("split", [("", "")]), (None, None),
    ("", {}), ("YES", {}), (("yes",), {}), (["yes"], {}), ({"yes": {}}, {}), {"yes": {}}, [[[[[[[[]]]]]]]],
    ("split", [([], [()])]), ("split", [([], [[]])]), ("split", [([], [None])]), ("split", [([None], [None])]),
    ("yes", {None: None}), ("yes", {(): 0}), ("yes", {"": 0}), ("yes", {0: 0}), ("yes", {(((),),): ((),)}),
)


def customs_of(kinds, step):
    """Each step-th one of all customs of these kinds, with all they may say by turns."""
    pairs = list(itertools.combinations_with_replacement(kinds, 2))
    yeses = [yes for many in range(len(kinds) + 1) for yes in itertools.combinations(kinds, many)]
    for number, ends in enumerate(itertools.product(pairs, repeat=len(pairs))):
        if number % step == 0:
            rows = tuple([one + other for one, other in zip(pairs, ends) if one != other])
            yield Custom(kinds, rows, (("inn", kinds[0]),), yes=yeses[number // step % len(yeses)])


def crowds_of(many_kinds, most_folk):
    for crowd in itertools.product(range(most_folk + 1), repeat=many_kinds):
        if 1 <= sum(crowd) <= most_folk:
            yield crowd


ALL_CUSTOMS = [*customs_of(("z", "m"), 1), *customs_of(("m", "z"), 2), *customs_of(("z", "m", "a"), 631)]


def shortest_into(custom, crowd, a_round):
    ways = [way(custom, crowd, one) for one in a_round]
    return min(ways, key=lambda numbers: (len(numbers), numbers))


def plain_paper(custom, crowd):
    """The paper to be told, put together from what comings and rounds tell."""
    word = says(custom, crowd)
    crowds = comes(custom, crowd)
    if word != "split":
        ends = [one for one in crowds if sure(custom, one) == word]
        ways = [[way(custom, one, end) for end in ends] for one in crowds]
        return word, {one: min([len(found) for found in some if found is not None]) for one, some in zip(crowds, ways)}
    by_word = {}
    for a_round in rounds(custom, crowd):
        words = {agrees(custom, one) for one in a_round}
        by_word.setdefault(words.pop() if len(words) == 1 else None, a_round)
    taken = [by_word[None]] if None in by_word else [by_word["yes"], by_word["no"]]
    return "split", [(shortest_into(custom, crowd, a_round), a_round) for a_round in taken]


class PaperTest(unittest.TestCase):
    def test_all_is_defined_in_this_file(self):
        for thing in (paper, is_paper):
            self.assertEqual(thing.__module__, "crowdsay.papers")

    def test_of_yes(self):
        self.assertEqual(paper(FEW, (2, 1)), FEW_YES)
        self.assertEqual(paper(FEW, (0, 3)), ("yes", {(0, 3): 0}))

    def test_of_no(self):
        self.assertEqual(paper(FEW, (3, 0)), ("no", {(3, 0): 0}))
        turned = Custom(FEW.kinds, FEW.rows, FEW.gates, yes=("n",))
        self.assertEqual(paper(turned, (2, 1)), ("no", {(2, 1): 2, (1, 2): 1, (0, 3): 0}))

    def test_ranks_are_the_fewest_meetings_to_a_sure_crowd(self):
        custom = Custom(
            ("z", "m", "a"),
            (("z", "z", "z", "m"), ("z", "m", "a", "a"), ("m", "m", "m", "a"), ("m", "a", "a", "a")),
            GATES,
            yes=("a",),
        )
        self.assertEqual(paper(custom, (0, 3, 0)), ("yes", {(0, 3, 0): 3, (0, 2, 1): 2, (0, 1, 2): 1, (0, 0, 3): 0}))
        self.assertEqual(says(custom, (1, 1, 0)), "yes")
        self.assertEqual(paper(custom, (1, 1, 0)), ("yes", {(1, 1, 0): 1, (0, 0, 2): 0}))

    def test_a_crowd_that_agrees_but_is_not_sure_is_above_nought(self):
        custom = Custom(("z", "m", "a"), (("z", "z", "z", "m"), ("z", "m", "z", "a")), GATES, yes=("z", "a"))
        self.assertEqual(
            paper(custom, (3, 0, 0)),
            ("yes", {(3, 0, 0): 4, (2, 1, 0): 3, (1, 2, 0): 2, (2, 0, 1): 2, (1, 1, 1): 1, (1, 0, 2): 0}),
        )

    def test_of_one_that_is_split_for_ever(self):
        self.assertEqual(paper(SWING, (3, 0)), SWING_SPLIT)
        self.assertEqual(paper(SWING, (2, 1)), SWING_SPLIT)

    def test_one_way_to_the_first_round_of_unlike_words(self):
        custom = Custom(FORK_KINDS, FORK_ROWS, GATES, yes=("m",))
        self.assertEqual(paper(custom, ALL_Z), ("split", [MIXED]))
        rests = Custom(("z", "m"), (), GATES, yes=("m",))
        self.assertEqual(paper(rests, (3, 4)), ("split", [([], [(3, 4)])]))

    def test_a_round_of_unlike_words_that_is_reached_late(self):
        custom = Custom(
            ("z", "m", "a", "b"),
            (("z", "z", "m", "m"), ("z", "m", "a", "a"), ("m", "m", "m", "b"), ("m", "b", "m", "m")),
            GATES,
            yes=("a", "b"),
        )
        self.assertEqual(rounds(custom, (2, 0, 0, 0)), [[(0, 1, 0, 1), (0, 2, 0, 0)]])
        self.assertEqual(paper(custom, (2, 0, 0, 0)), ("split", [([0], [(0, 1, 0, 1), (0, 2, 0, 0)])]))
        told = paper(custom, (4, 0, 0, 0))
        self.assertEqual(told, plain_paper(custom, (4, 0, 0, 0)))
        self.assertEqual(len(told[1]), 1)

    def test_two_ways_to_yes_then_to_no(self):
        self.assertEqual(paper(ONE_OF_EACH, (3, 0, 0, 0)), ("split", [([0, 1], [(0, 1, 2, 0)])]))
        rows = (("z", "z", "m", "m"), ("z", "m", "a", "a"), ("z", "a", "a", "a"), ("m", "a", "a", "a"))
        custom = Custom(("z", "m", "a"), rows, GATES, yes=("a",))
        self.assertEqual(way(custom, (4, 0, 0), (0, 0, 4)), [0, 1, 1])
        to_a = ([0, 1, 1], [(0, 0, 4)])
        to_m = ([0, 0], [(0, 4, 0)])
        self.assertEqual(paper(custom, (4, 0, 0)), ("split", [to_a, to_m]))
        turned = Custom(("z", "m", "a"), rows, GATES, yes=("z", "m"))
        self.assertEqual(paper(turned, (4, 0, 0)), ("split", [to_m, to_a]))

    def test_against_what_comes_and_is_sure(self):
        for custom in ALL_CUSTOMS:
            for crowd in crowds_of(len(custom), 4):
                with self.subTest(custom=repr(custom), crowd=crowd):
                    told = paper(custom, crowd)
                    self.assertEqual(told, plain_paper(custom, crowd))
                    self.assertIs(is_paper(custom, crowd, told), True)

    def test_more_than_four_hundred(self):
        with self.assertRaises(TooMany) as caught:
            paper(GRID, ONE_TOO_MANY)
        self.assertEqual(caught.exception.most, 400)
        self.assertEqual(len(paper(GRID, JUST_ENOUGH)[1]), 400)

    def test_of_three_hundred_folk(self):
        word, ranks = paper(FEW, (299, 1))
        self.assertEqual(word, "yes")
        self.assertEqual(ranks, {(n, 300 - n): n for n in range(300)})
        self.assertEqual(paper(SWING, (300, 0)), ("split", [([], [(z, 300 - z) for z in range(1, 301)])]))

    def test_the_kinds_of_values(self):
        word, ranks = paper(FEW, (2, 1))
        self.assertEqual((type(word), type(ranks)), (str, dict))
        self.assertTrue(all(type(rank) is int for rank in ranks.values()))
        told = paper(ONE_OF_EACH, ALL_Z)
        self.assertEqual((type(told), type(told[1]), type(told[1][0])), (tuple, list, tuple))
        self.assertEqual((type(told[1][0][0]), type(told[1][0][1])), (list, list))

    def test_what_is_told_is_new_and_the_askers_own(self):
        paper(FEW, (2, 1))[1].clear()
        self.assertEqual(paper(FEW, (2, 1)), FEW_YES)
        told = paper(SWING, (3, 0))
        told[1][0][0].append(9)
        told[1][0][1].clear()
        told[1].clear()
        self.assertEqual(paper(SWING, (3, 0)), SWING_SPLIT)

    def test_by_name(self):
        self.assertEqual(paper(crowd=(2, 1), custom=FEW), FEW_YES)
        self.assertIs(is_paper(thing=FEW_YES, crowd=(2, 1), custom=FEW), True)


class IsPaperTest(unittest.TestCase):
    def right(self, custom, crowd, thing):
        with self.subTest(thing=repr(thing)[:200]):
            self.assertIs(is_paper(custom, crowd, thing), True)

    def wrong(self, custom, crowd, thing):
        with self.subTest(thing=repr(thing)[:200]):
            self.assertIs(is_paper(custom, crowd, thing), False)

    def ranks(self, crowd, ranks, is_right, custom=FEW, word="yes"):
        ask = self.right if is_right else self.wrong
        ask(custom, crowd, (word, ranks))

    def test_of_anything(self):
        deep = ()
        for _ in range(7):
            deep = (deep,)
        great = (list(range(2000)), ("split", [([], [])] * 500), ("split", [([0] * 900, [(3, 0)] * 300)]))
        for thing in (*NOT_PAPERS, *great, deep, ("yes", deep), ("split", [deep])):
            for custom, crowd in ((FEW, (2, 1)), (SWING, (3, 0)), (ONE_OF_EACH, ALL_Z), (FEW, (1, 0))):
                self.wrong(custom, crowd, thing)

    def test_the_told_ones(self):
        self.right(FEW, (2, 1), FEW_YES)
        self.right(SWING, (3, 0), SWING_SPLIT)
        self.right(ONE_OF_EACH, ALL_Z, paper(ONE_OF_EACH, ALL_Z))

    def test_only_of_their_own_crowd(self):
        self.right(FEW, (1, 2), FEW_YES)
        self.wrong(FEW, (3, 1), FEW_YES)
        self.wrong(FEW, (3, 0), FEW_YES)
        self.wrong(SWING, (4, 0), SWING_SPLIT)
        self.wrong(FEW, (1, 2), SWING_SPLIT)
        self.wrong(SWING, (3, 0), FEW_YES)

    def test_the_word(self):
        self.wrong(FEW, (2, 1), ("no", FEW_YES[1]))
        self.wrong(FEW, (2, 1), ("split", FEW_YES[1]))
        self.wrong(FEW, (2, 1), ("Yes", FEW_YES[1]))
        self.wrong(FEW, (2, 1), (True, FEW_YES[1]))
        rests = Custom(("z", "m"), (), GATES, yes=("m",))
        for word in (None, "split", "", False, True, 0, [], ()):
            self.wrong(rests, (3, 4), (word, {(3, 4): 0}))
        self.wrong(SWING, (3, 0), ("yes", SWING_SPLIT[1]))
        self.right(FEW, (3, 0), ("no", {(3, 0): 0}))
        self.wrong(FEW, (3, 0), ("yes", {(3, 0): 0}))

    def test_a_pair_is_a_tuple_of_two(self):
        self.wrong(FEW, (2, 1), list(FEW_YES))
        self.wrong(FEW, (2, 1), (*FEW_YES, None))
        self.wrong(FEW, (2, 1), FEW_YES[:1])
        self.wrong(FEW, (2, 1), FEW_YES[1])
        self.wrong(FEW, (2, 1), ("yes", list(FEW_YES[1].items())))
        self.wrong(FEW, (2, 1), ("yes", tuple(FEW_YES[1].items())))

    def test_ranks_may_be_other_ones(self):
        self.ranks((2, 1), {(2, 1): 7, (1, 2): 3, (0, 3): 0}, True)
        self.ranks((2, 1), {(2, 1): 10 ** 60, (1, 2): 10 ** 60 - 1, (0, 3): 0}, True)
        self.ranks((2, 1), {(0, 3): 0, (1, 2): 1, (2, 1): 2}, True)

    def test_ranks_that_do_not_lessen(self):
        self.ranks((2, 1), {(2, 1): 1, (1, 2): 1, (0, 3): 0}, False)
        self.ranks((2, 1), {(2, 1): 1, (1, 2): 2, (0, 3): 0}, False)
        self.ranks((2, 1), {(2, 1): 3, (1, 2): 2, (0, 3): 1}, False)

    def test_of_several_rows_one_to_a_lesser_rank_is_enough(self):
        custom = Custom(("z", "m"), SWING.rows, GATES, yes=("z", "m"))
        self.ranks((3, 0), {(3, 0): 1, (2, 1): 0, (1, 2): 0}, False, custom)
        self.ranks((3, 0), {(3, 0): 0, (2, 1): 0, (1, 2): 0}, True, custom)
        rows = (*SWING.rows, ("z", "a", "a", "a"), ("m", "a", "a", "a"))
        steps = Custom(("z", "m", "a"), rows, GATES, yes=("a",))
        ranks = dict(paper(steps, (2, 0, 1))[1])
        self.assertEqual(ranks, {(2, 0, 1): 2, (1, 1, 1): 2, (1, 0, 2): 1, (0, 1, 2): 1, (0, 0, 3): 0})
        self.ranks((2, 0, 1), ranks, True, steps)
        self.ranks((2, 0, 1), {**ranks, (2, 0, 1): 9, (1, 1, 1): 9}, True, steps)
        self.ranks((2, 0, 1), {**ranks, (2, 0, 1): 1}, False, steps)

    def test_what_comes_is_among_them(self):
        self.ranks((2, 1), {(2, 1): 2, (1, 2): 1}, False)
        self.ranks((2, 1), {(2, 1): 2, (0, 3): 0}, False)
        self.ranks((2, 1), {(2, 1): 0}, False)
        self.ranks((2, 1), {(1, 2): 1, (0, 3): 0}, False)
        steps = Custom(("z", "m", "a"), (("z", "z", "m", "m"), ("z", "m", "a", "a")), GATES, yes=("z", "m", "a"))
        whole = dict.fromkeys(comes(steps, (3, 0, 0)), 0)
        self.ranks((3, 0, 0), whole, True, steps)
        for crowd in whole:
            self.ranks((3, 0, 0), {key: 0 for key in whole if key != crowd}, False, steps)

    def test_one_of_rank_nought_agrees_and_leads_to_nought_alone(self):
        self.ranks((2, 1), {(2, 1): 2, (1, 2): 0, (0, 3): 0}, False)
        self.ranks((2, 1), {(2, 1): 0, (1, 2): 0, (0, 3): 0}, False)
        custom = Custom(("z", "m", "a"), (("z", "z", "z", "m"), ("z", "m", "z", "a")), GATES, yes=("z", "a"))
        self.ranks((3, 0, 0), dict(paper(custom, (3, 0, 0))[1]), True, custom)
        self.ranks((3, 0, 0), {**paper(custom, (3, 0, 0))[1], (2, 0, 1): 0}, False, custom)
        self.ranks((3, 0, 0), {**paper(custom, (3, 0, 0))[1], (3, 0, 0): 0}, False, custom)
        one_word = Custom(("z", "m"), (("z", "z", "m", "m"),), GATES)
        self.ranks((2, 0), {(2, 0): 0, (0, 2): 0}, True, one_word, "no")
        self.ranks((2, 0), {(2, 0): 1, (0, 2): 0}, True, one_word, "no")
        self.ranks((2, 0), {(2, 0): 0, (0, 2): 1}, False, one_word, "no")

    def test_other_crowds_may_be_among_them(self):
        self.ranks((2, 1), {**FEW_YES[1], (0, 1): 0}, True)
        self.ranks((2, 1), {**FEW_YES[1], (0, 300): 0, (0, 1000): 0, (1, 10 ** 59): 4, (0, 10 ** 59 + 1): 0}, True)
        self.ranks((2, 1), {**FEW_YES[1], (1, 3): 5, (0, 4): 0}, True)

    def test_other_crowds_must_be_right_too(self):
        self.ranks((2, 1), {**FEW_YES[1], (1, 3): 5}, False)
        self.ranks((2, 1), {**FEW_YES[1], (1, 3): 5, (0, 4): 5}, False)
        self.ranks((2, 1), {**FEW_YES[1], (0, 4): 1}, False)
        self.ranks((2, 1), {**FEW_YES[1], (3, 0): 0}, False)
        self.ranks((2, 1), {**FEW_YES[1], (3, 0): 1}, False)
        self.ranks((2, 1), {**FEW_YES[1], (1, 3): 0, (0, 4): 0}, False)

    def test_what_is_no_crowd_is_not_among_them(self):
        for key in ((0, 0), (0, 3, 0), (3,), (), 3, "yes", None, True, (-1, 4), (0, "3"), (0, None), (0, (3,)), "03"):
            self.ranks((2, 1), {**FEW_YES[1], key: 0}, False)

    def test_truths_in_the_place_of_numbers(self):
        self.ranks((2, 1), {(2, 1): 2, (1, 2): True, (0, 3): 0}, False)
        self.ranks((2, 1), {(2, 1): 2, (1, 2): 1, (0, 3): False}, False)
        self.ranks((2, 1), {(2, True): 2, (1, 2): 1, (0, 3): 0}, False)
        self.ranks((2, 1), {(2, 1): 2, (True, 2): 1, (0, 3): 0}, False)
        self.ranks((2, 1), {(2, 1): 2, (1, 2): 1, (False, 3): 0}, False)
        self.wrong(SWING, (3, 0), ("split", [([], [(1, 2), (2, True), (3, 0)])]))
        self.wrong(SWING, (3, 0), ("split", [([], [(True, 2), (2, 1), (3, 0)])]))
        self.wrong(SWING, (3, 0), ("split", [([], [(1, 2), (2, 1), (3, False)])]))
        self.wrong(SWING, (3, 0), ("split", [([False], [(1, 2), (2, 1), (3, 0)])]))
        self.right(SWING, (3, 0), ("split", [([0], [(1, 2), (2, 1), (3, 0)])]))

    def test_other_things_in_the_place_of_ranks(self):
        for rank in (-1, None, "0", (), [0], {}, (0,), -(10 ** 60)):
            self.ranks((2, 1), {(2, 1): 2, (1, 2): 1, (0, 3): rank}, False)
            self.ranks((2, 1), {(2, 1): rank, (1, 2): 1, (0, 3): 0}, False)
            self.ranks((2, 1), {**FEW_YES[1], (0, 4): rank}, False)

    def test_any_right_way(self):
        whole = [(1, 2), (2, 1), (3, 0)]
        for numbers in ([], [0], [0, 0], [0, 1], [0, 1] * 500, [0, 0, 1, 1]):
            self.right(SWING, (3, 0), ("split", [(numbers, whole)]))
            self.right(SWING, (3, 0), ("split", [(numbers, whole), ([], whole)]))

    def test_ways_that_cannot_be_walked(self):
        whole = [(1, 2), (2, 1), (3, 0)]
        for numbers in ([1], [0, 0, 0], [2], [-1], [0, -2], [0, 2], [10 ** 60], [None], ["0"], [[0]], [(0,)], [[]],
                        (), (0,), "0", None, 0, {}, {0: 0}):
            self.wrong(SWING, (3, 0), ("split", [(numbers, whole)]))
            self.wrong(SWING, (3, 0), ("split", [(numbers, whole), ([], whole)]))
            self.wrong(SWING, (3, 0), ("split", [([], whole), (numbers, whole)]))

    def test_ways_that_do_not_lead_into_their_round(self):
        custom = Custom(FORK_KINDS, FORK_ROWS, GATES, yes=("m",))
        self.right(custom, ALL_Z, ("split", [MIXED]))
        for numbers in ([], [0], [0, 0], [0, 1], [0, 1, 1]):
            self.wrong(custom, ALL_Z, ("split", [(numbers, MIXED[1])]))
        self.wrong(custom, (0, 4, 0, 0), ("split", [([], MIXED[1])]))
        self.right(custom, (0, 1, 1, 2), ("split", [([], MIXED[1])]))

    def test_rounds_that_are_none(self):
        for a_round in (
            [(1, 2), (2, 1)], [(2, 1), (3, 0)], [(3, 0)], [(1, 2), (3, 0)], [(2, 1), (1, 2), (3, 0)],
            [(3, 0), (2, 1), (1, 2)], [(1, 2), (2, 1), (2, 1), (3, 0)], [(1, 2), (2, 1), (3, 0), (3, 0)],
            [(0, 3), (1, 2), (2, 1), (3, 0)], [(1, 2), (2, 1), (3, 0), (4, 0)], [], [()], [(3,)], [(3, 0, 0)],
            ((1, 2), (2, 1), (3, 0)), [[1, 2], [2, 1], [3, 0]], [(1, 2), [2, 1], (3, 0)], {(1, 2): 0}, None, 3, "",
            True,
            [None], [3], ["30"], [(1, 2), None, (3, 0)], [(1, 2), (2, 1), (3, "0")], [(1, 2), (2, 1), (3, 0), ()],
        ):
            self.wrong(SWING, (3, 0), ("split", [([], a_round)]))
            self.wrong(SWING, (3, 0), ("split", [([], a_round), SWING_SPLIT[1][0]]))
            self.wrong(SWING, (3, 0), ("split", [SWING_SPLIT[1][0], ([], a_round)]))

    def test_what_leads_out_or_never_back_is_no_round(self):
        custom = Custom(("z", "m", "a"), (("z", "z", "m", "m"), ("z", "m", "a", "a")), GATES, yes=("m",))
        self.right(custom, (2, 1, 0), ("split", [([0], [(0, 3, 0)]), ([1], [(1, 0, 2)])]))
        self.wrong(custom, (2, 1, 0), ("split", [([1], [(0, 3, 0)]), ([0], [(1, 0, 2)])]))
        self.wrong(custom, (3, 0, 0), ("split", [([], [(3, 0, 0)])]))
        self.wrong(custom, (3, 0, 0), ("split", [([0], [(1, 2, 0)])]))
        self.wrong(custom, (3, 0, 0), ("split", [([0], [(0, 1, 2), (1, 2, 0)])]))
        self.right(custom, (3, 0, 0), ("split", [([0, 1], [(0, 1, 2)])]))
        self.wrong(custom, (3, 0, 0), ("split", [([], [(0, 1, 2), (1, 2, 0), (3, 0, 0)])]))

    def test_how_many_ways(self):
        whole = SWING_SPLIT[1][0]
        self.right(SWING, (3, 0), ("split", [whole, whole]))
        self.wrong(SWING, (3, 0), ("split", [whole, whole, whole]))
        self.wrong(SWING, (3, 0), ("split", []))
        self.wrong(SWING, (3, 0), ("split", (whole,)))
        self.wrong(SWING, (3, 0), ("split", whole))
        self.wrong(SWING, (3, 0), ("split", [list(whole)]))
        self.wrong(SWING, (3, 0), ("split", [(*whole, [])]))
        self.wrong(SWING, (3, 0), ("split", [whole[:1]]))
        self.wrong(SWING, (3, 0), ("split", {0: whole}))

    def test_ways_to_one_word_each(self):
        custom = ONE_OF_EACH
        self.right(custom, ALL_Z, ("split", [ALL_A, ALL_M]))
        self.right(custom, ALL_Z, ("split", [ALL_M, ALL_A]))
        self.wrong(custom, ALL_Z, ("split", [ALL_A]))
        self.wrong(custom, ALL_Z, ("split", [ALL_M]))
        self.wrong(custom, ALL_Z, ("split", [ALL_A, ALL_A]))
        self.wrong(custom, ALL_Z, ("split", [ALL_M, ALL_M]))

    def test_one_way_of_unlike_words_is_enough_whichever(self):
        custom = ONE_OF_EACH
        self.right(custom, ALL_Z, ("split", [MIXED]))
        self.right(custom, ALL_Z, ("split", [MIXED, ALL_A]))
        self.right(custom, ALL_Z, ("split", [ALL_A, MIXED]))
        self.right(custom, ALL_Z, ("split", [MIXED, ALL_M]))
        self.right(custom, ALL_Z, ("split", [ALL_M, MIXED]))
        self.right(custom, ALL_Z, ("split", [MIXED, MIXED]))

    def test_a_wrong_way_beside_a_right_one(self):
        custom = ONE_OF_EACH
        for wrong in (([0], ALL_A[1]), (ALL_A[0], [(0, 0, 4, 0), (0, 4, 0, 0)]), (ALL_A[0], ALL_M[1]), None, ()):
            self.wrong(custom, ALL_Z, ("split", [MIXED, wrong]))
            self.wrong(custom, ALL_Z, ("split", [wrong, MIXED]))

    def test_not_refused_where_more_than_four_hundred_come(self):
        ranks = dict.fromkeys(comes(GRID, ONE_TOO_MANY, most=401), 0)
        self.right(GRID, ONE_TOO_MANY, ("yes", ranks))
        self.wrong(GRID, ONE_TOO_MANY, ("no", ranks))
        self.wrong(GRID, ONE_TOO_MANY, ("yes", {key: 0 for key in ranks if key != ONE_TOO_MANY}))
        self.wrong(GRID, ONE_TOO_MANY, None)
        last = [(0, 0, 1, 1, 0, 19, 0, 19)]
        some = Custom(GRID_KINDS, GRID_ROWS, (("inn", "e"),), yes=("s",))
        self.right(some, ONE_TOO_MANY, ("split", [([0] + [1] * 19 + [2] * 19, last)]))
        self.wrong(some, ONE_TOO_MANY, ("split", [([0] + [1] * 19 + [2] * 18, last)]))
        self.wrong(some, ONE_TOO_MANY, ("split", [([], [ONE_TOO_MANY])]))

    def test_a_round_of_more_than_four_hundred(self):
        kinds = ("s", "x", "y", "p", "q")
        rows = (("s", "x", "s", "y"), ("s", "y", "s", "x"), ("s", "p", "s", "q"), ("s", "q", "s", "p"))
        custom = Custom(kinds, rows, (("inn", "s"),), yes=("x",))
        whole = comes(custom, (1, 20, 0, 20, 0), most=1000)
        self.assertEqual(len(whole), 441)
        self.right(custom, (1, 20, 0, 20, 0), ("split", [([], whole)]))
        self.wrong(custom, (1, 20, 0, 20, 0), ("split", [([], whole[1:])]))
        self.wrong(custom, (1, 20, 0, 20, 0), ("split", [([], whole[:-1])]))

    def test_no_crowd_has_papers_of_two_words(self):
        for custom in ALL_CUSTOMS[::5]:
            for crowd in crowds_of(len(custom), 3):
                word = says(custom, crowd)
                crowds = comes(custom, crowd)
                for claimed in ("yes", "no"):
                    for ranks in itertools.islice(itertools.product(range(3), repeat=len(crowds)), 300):
                        thing = (claimed, dict(zip(crowds, ranks)))
                        if is_paper(custom, crowd, thing):
                            self.assertEqual(word, claimed)

    def test_each_rank_as_the_document_tells(self):
        for custom in ALL_CUSTOMS[::7]:
            for crowd in crowds_of(len(custom), 3):
                crowds = comes(custom, crowd)
                for ranks in itertools.islice(itertools.product(range(3), repeat=len(crowds)), 300):
                    thing = dict(zip(crowds, ranks))
                    for word in ("yes", "no"):
                        is_right = self.plainly_right(custom, word, thing)
                        self.assertIs(is_paper(custom, crowd, (word, thing)), is_right)

    def plainly_right(self, custom, word, ranks):
        for crowd, rank in ranks.items():
            behinds = [ranks[behind(custom, crowd, number)] for number in can_be_done(custom, crowd)]
            if rank == 0 and (agrees(custom, crowd) != word or any(behinds)):
                return False
            if rank > 0 and not any(other < rank for other in behinds):
                return False
        return True

    def test_the_thing_stays_as_it_is(self):
        thing = ("yes", {(2, 1): 2, (1, 2): 1, (0, 3): 0})
        is_paper(FEW, (2, 1), thing)
        self.assertEqual(repr(thing), repr(FEW_YES))
        thing = ("split", [([0, 1], [(1, 2), (2, 1), (3, 0)])])
        shown = repr(thing)
        is_paper(SWING, (3, 0), thing)
        self.assertEqual(repr(thing), shown)


if __name__ == "__main__":
    unittest.main()
