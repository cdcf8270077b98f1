"""Papers for all crowds, looked over (points 18 and 19)."""

import copy
import itertools
import os
import random
import sys
import unittest

sys.path.insert(0, os.path.dirname(os.path.abspath(__file__)))

from plain import leaf_of, sentences
from plainpapers import ALWAYS, ODD, ODD_SENTENCE, always_paper, is_plainly_right, odd_paper

from crowdsay.customs import Custom
from crowdsay.errors import TooMany
from crowdsay.forall import MOST_CHOICES, is_paper_for_all, paper_for
from crowdsay.made import made_for

NOT_PAPERS = (
    None, True, False, 0, 1, 3, -1, 10 ** 60, "", "abc", (), [], {}, ((), (), ()), [[], [], []], ([], []),
    ([], [], [], []), (None, None, None), ({}, {}, {}), ("", "", ""), (0, 0, 0), (True, True, True),
    {0: [], 1: [], 2: []},
    ([None], [], []), ([()], [], []), ([[]], [], []), ([(None, None)], [], []), ([([None], (None,))], [], []),
    ([], [None], [None]), ([], [()], [()]), ([], ["odd"], [(1,)]), ([], [({},)], [({},)]), ([[[[[[[[]]]]]]]], [], []),
    ([([0], ())], [("odd",)], [()]), ([{}], [{}], [{}]), ([("ab")], ["ab"], ["ab"]), ([[[0], ()]], [["odd"]], [[1]]),
)


def replaced(thing, place, part):
    kept = list(thing)
    kept[place] = part
    return tuple(kept) if isinstance(thing, tuple) else kept


def unlike(thing):
    """The thing with one part of it, or all of it, put in another kind of Python's that is equal or nearly so."""
    if isinstance(thing, tuple):
        yield list(thing)
        yield dict(enumerate(thing))
    if isinstance(thing, list):
        yield tuple(thing)
        yield dict(enumerate(thing))
    if isinstance(thing, int):
        yield str(thing)
        yield None
        yield (thing,)
        yield float(thing)
        if thing in (0, 1):
            yield bool(thing)
    if isinstance(thing, str):
        yield (thing,)
        yield None
        yield thing + " "
    if isinstance(thing, (tuple, list)):
        for place, part in enumerate(thing):
            for other in unlike(part):
                yield replaced(thing, place, other)


class OddTest(unittest.TestCase):
    """Each condition broken by itself, of one custom."""

    def assert_none(self, paper):
        self.assertIs(is_paper_for_all(ODD, ODD_SENTENCE, paper), False, paper)

    def with_layers(self, *layers):
        return list(layers), odd_paper()[1], odd_paper()[2]

    def with_lots(self, *lots):
        return odd_paper()[0], list(lots), odd_paper()[2]

    def with_sums(self, *sums):
        return odd_paper()[0], odd_paper()[1], list(sums)

    def test_is_defined_in_this_file(self):
        self.assertEqual(is_paper_for_all.__module__, "crowdsay.forall")
        self.assertEqual(MOST_CHOICES, 4000)

    def test_a_right_one(self):
        self.assertIs(is_paper_for_all(ODD, ODD_SENTENCE, odd_paper()), True)
        self.assertIs(is_paper_for_all(thing=odd_paper(), sentence=ODD_SENTENCE, custom=ODD), True)
        self.assertTrue(is_plainly_right(ODD, ODD_SENTENCE, odd_paper()))

    def test_other_right_ones(self):
        first, second, third = odd_paper()[0]
        for paper in (
            self.with_layers(first, third, second),
            self.with_layers(([3, 0], (1, 1, 0, 0)), ([1], (1, 1, 0, 0)), second, third),
            self.with_layers(([1, 0, 3], (7, 7, 0, 0)), ([2], (0, 0, 3, 0)), ([4], (0, 0, 0, 10 ** 59))),
            self.with_layers(([0, 1, 3, 2], (2, 2, 1, 0)), third),
            # Even where it is told twice a row is in just one layer.
            self.with_layers(([0, 1, 3, 0], (1, 1, 0, 0)), second, third),
            self.with_layers(([0, 1, 3, 4], (2, 2, 0, 1)), second),
            self.with_lots(("odd", "even"), ("odd", "even")),
            self.with_lots(("odd", "even", "n", "y"), ("odd", "even", "n"), ("odd", "even")),
            self.with_sums((3, 0, 0, 2)), self.with_sums((-1, 4, 6, -2)), self.with_sums((1, 10 ** 58, 0, 0)),
        ):
            self.assertTrue(is_plainly_right(ODD, ODD_SENTENCE, paper))
            self.assertIs(is_paper_for_all(ODD, ODD_SENTENCE, paper), True, paper)

    def test_the_custom_says_otherwise(self):
        for yes in ((), ("odd",), ("y",), ("even", "n"), ("odd", "even", "n", "y"), ("odd", "n"), ("odd", "even", "y")):
            custom = Custom(ODD.kinds, ODD.rows, ODD.gates, yes=yes)
            self.assertIs(is_paper_for_all(custom, ODD_SENTENCE, odd_paper()), False)
            is_turned = yes == ("even", "n")
            self.assertIs(is_paper_for_all(custom, ("not", ODD_SENTENCE), odd_paper()), is_turned)
            self.assertIs(is_paper_for_all(custom, ("rest", (1,), 2, 0), odd_paper()), is_turned)

    def test_other_sentences(self):
        for sentence in (("least", (1,), 1), ("least", (1,), 0), ("rest", (1,), 3, 1), ("rest", (0,), 2, 1),
                         ("rest", (1,), 4, 1), ("and", ODD_SENTENCE, ODD_SENTENCE), ("rest", (1, 1), 2, 1)):
            self.assertIs(is_paper_for_all(ODD, sentence, odd_paper()), False)
        for sentence in (("rest", (-1,), 2, 1), ("rest", (3,), 2, 1), ("not", ("not", ODD_SENTENCE))):
            self.assertIs(is_paper_for_all(ODD, sentence, odd_paper()), True)

    def test_other_than_as_many_weights_as_gates(self):
        self.assert_none(self.with_sums())
        two = Custom(ODD.kinds, ODD.rows, (("in", "odd"), ("out", "odd")), yes=ODD.yes)
        self.assertIs(is_paper_for_all(two, ("rest", (1, 1), 2, 1), odd_paper()), True)
        self.assertIs(is_paper_for_all(two, ODD_SENTENCE, odd_paper()), False)
        self.assertIs(is_paper_for_all(ODD, ("rest", (1, 1), 2, 1), odd_paper()), False)

    def test_a_row_in_no_layer(self):
        first, second, third = odd_paper()[0]
        for layers in ([], [first], [second, third], [first, second], [first, third],
                       [([0, 1], first[1]), second, third], [([0, 3], first[1]), second, third]):
            self.assert_none(self.with_layers(*layers))

    def test_a_row_in_two_layers(self):
        first, second, third = odd_paper()[0]
        self.assert_none(self.with_layers(first, second, third, third))
        self.assert_none(self.with_layers(first, ([0], first[1]), second, third))
        self.assert_none(self.with_layers(([0, 1, 3, 2], (2, 2, 1, 0)), second, third))

    def test_an_empty_layer(self):
        first, second, third = odd_paper()[0]
        for weights in ((0, 0, 0, 0), (1, 1, 1, 1)):
            self.assert_none(self.with_layers(([], weights), first, second, third))
            self.assert_none(self.with_layers(first, second, third, ([], weights)))

    def test_numbers_that_are_no_rows(self):
        first, second, third = odd_paper()[0]
        for number in (-1, 5, -5, 10 ** 60, -(10 ** 60)):
            self.assert_none(self.with_layers(first, second, ([4, number], third[1])))
            self.assert_none(self.with_layers(first, second, ([number], third[1])))

    def test_weights_below_nought(self):
        first, second, third = odd_paper()[0]
        self.assert_none(self.with_layers(first, ([2], (0, 0, 1, -1)), third))
        self.assert_none(self.with_layers(first, ([2], (0, 0, 0, -1)), third))
        self.assert_none(self.with_layers(([0, 1, 3], (1, 1, 0, -1)), second, third))

    def test_too_few_or_too_many_weights(self):
        first, second, third = odd_paper()[0]
        for weights in ((), (0, 0, 1), (0, 0, 1, 0, 0)):
            self.assert_none(self.with_layers(first, ([2], weights), third))

    def test_a_row_that_does_not_lessen_the_worth(self):
        first, second, third = odd_paper()[0]
        for weights in ((0, 0, 0, 0), (0, 0, 1, 1), (0, 0, 0, 1), (9, 9, 2, 2)):
            self.assert_none(self.with_layers(first, ([2], weights), third))
        for weights in ((1, 0, 0, 0), (0, 1, 0, 0), (1, 1, 1, 0), (1, 1, 0, 1), (0, 0, 0, 0)):
            self.assert_none(self.with_layers(([0, 1, 3], weights), second, third))

    def test_a_later_row_that_opens_an_earlier_layer(self):
        first, second, third = odd_paper()[0]
        for layers in ([second, first, third], [second, third, first], [third, second, first], [third, first, second],
                       [second, ([0, 1, 3, 4], (2, 2, 0, 1))]):
            self.assert_none(self.with_layers(*layers))
            self.assertFalse(is_plainly_right(ODD, ODD_SENTENCE, self.with_layers(*layers)))

    def test_lots_that_are_none(self):
        for lot in ((), ("even", "odd"), ("odd", "odd", "even"), ("odd", "even", "even"), ("odd", "else"), ("even",),
                    ("odd",), ("n", "y"), ("odd", "y"), ("even", "n", "y"), ("y", "odd", "even")):
            self.assert_none(self.with_lots(lot))
            self.assert_none(self.with_lots(("odd", "even"), lot))

    def test_a_lot_too_few(self):
        self.assert_none(self.with_lots())
        self.assert_none(self.with_lots(("odd", "even", "n", "y")))

    def test_sums_that_are_none(self):
        for numbers in ((0, 0, 0, 0), (2, 0, 0, 0), (1, 1, 0, 0), (1, 0, 1, 0), (1, 0, 0, 1), (1, 0, 0), (),
                        (1, 0, 0, 0, 0), (-2, 0, 0, 0)):
            self.assert_none(self.with_sums(numbers))

    def test_too_few_or_too_many_sums(self):
        self.assert_none(self.with_sums())
        self.assert_none(self.with_sums((1, 0, 0, 0), (1, 0, 0, 0)))

    def test_of_anything_at_all(self):
        for thing in NOT_PAPERS:
            self.assert_none(thing)
        for thing, place in itertools.product(NOT_PAPERS, range(3)):
            if thing != []:
                self.assert_none(replaced(odd_paper(), place, thing))
                for deeper in range(len(odd_paper()[place])):
                    self.assert_none(replaced(odd_paper(), place, replaced(odd_paper()[place], deeper, thing)))

    def test_lists_for_tuples_and_the_like(self):
        things = list(unlike(odd_paper()))
        self.assertGreater(len(things), 100)
        for thing in things:
            self.assert_none(thing)

    def test_the_paper_stays(self):
        paper = odd_paper()
        for thing in (paper, self.with_lots(), self.with_sums()):
            before = copy.deepcopy(thing)
            is_paper_for_all(ODD, ODD_SENTENCE, thing)
            self.assertEqual(thing, before)


class LayersTest(unittest.TestCase):
    """Which later row opens an earlier layer; all kinds say yes of what is always so."""

    def assert_is(self, truth, custom, *layers):
        paper = always_paper(custom, list(layers))
        self.assertEqual(is_plainly_right(custom, ALWAYS, paper), truth)
        self.assertIs(is_paper_for_all(custom, ALWAYS, paper), truth)

    def custom(self, *rows):
        kinds = ("o", "p", "q", "r", "s")
        return Custom(kinds, tuple(tuple(row) for row in rows), (("in", "p"),), yes=kinds)

    def test_by_two_made_ones(self):
        # What either of the two made ones may do with one who was there, p could have done with them already.
        ahead, behind = (0, 1, 1, 1, 0), (1, 0, 0, 0, 0)
        self.assert_is(True, self.custom("opqr", "ppss", "pqss", "prss"), ([1, 2, 3], ahead), ([0], behind))
        custom = self.custom("opqr", "ppss", "pqss", "prss", "qrss")
        self.assert_is(False, custom, ([1, 2, 3, 4], ahead), ([0], behind))
        self.assert_is(True, custom, ([0], behind), ([1, 2, 3, 4], ahead))
        self.assert_is(True, custom, ([0, 1, 2, 3, 4], (3, 2, 2, 2, 0)))

    def test_by_two_made_ones_of_one_kind(self):
        ahead, behind = (0, 1, 1, 0, 0), (1, 0, 0, 0, 0)
        self.assert_is(True, self.custom("opqq", "ppss", "pqss"), ([1, 2], ahead), ([0], behind))
        self.assert_is(False, self.custom("opqq", "ppss", "pqss", "qqss"), ([1, 2, 3], ahead), ([0], behind))

    def test_by_one_made_and_one_there(self):
        custom = self.custom("ppqs", "qrss")
        self.assert_is(False, custom, ([1], (0, 0, 1, 1, 0)), ([0], (0, 1, 0, 0, 0)))
        self.assert_is(True, custom, ([0], (0, 1, 0, 0, 0)), ([1], (0, 0, 1, 1, 0)))
        with_p = self.custom("ppqs", "prss", "qrss")
        self.assert_is(True, with_p, ([1, 2], (0, 1, 1, 1, 0)), ([0], (0, 1, 0, 0, 0)))
        self.assert_is(True, with_p, ([1], (0, 1, 0, 1, 0)), ([2], (0, 0, 1, 1, 0)), ([0], (0, 1, 0, 0, 0)))
        # What was open behind the one that is opened doesn't do.
        self.assert_is(False, with_p, ([2], (0, 0, 1, 1, 0)), ([1], (0, 1, 0, 1, 0)), ([0], (0, 1, 0, 0, 0)))

    def test_by_either_made_one(self):
        for kinds in (("p", "q", "s", "r"), ("p", "s", "q", "r")):
            rows = (("p", "p", *kinds[1:3]), ("q", "r", "p", "p"))
            custom = Custom(kinds, rows, (("in", "p"),), yes=kinds)
            weights = tuple(int(kind in ("q", "r")) for kind in kinds)
            self.assert_is(False, custom, ([1], weights), ([0], (1, 0, 0, 0)))

    def test_by_one_made_and_one_there_of_its_kind(self):
        custom = self.custom("prqs", "qqss")
        self.assert_is(False, custom, ([1], (0, 0, 1, 0, 0)), ([0], (0, 1, 0, 0, 0)))
        by_first = self.custom("ppss", "pqss", "prqs", "qqss")
        self.assert_is(True, by_first, ([0, 1, 3], (0, 1, 1, 0, 0)), ([2], (0, 0, 0, 1, 0)))
        by_second = self.custom("prqs", "qqss", "qrss", "rrss")
        self.assert_is(True, by_second, ([1, 2, 3], (0, 0, 1, 1, 0)), ([0], (0, 1, 0, 0, 0)))

    def test_those_that_meet_are_not_there_any_more(self):
        # q might have met r, but r is gone; still the document wants p or r to have met r already.
        custom = self.custom("prqs", "qrss")
        self.assert_is(False, custom, ([1], (0, 0, 1, 1, 0)), ([0], (0, 1, 0, 0, 0)))
        self.assert_is(True, custom, ([0], (0, 1, 0, 0, 0)), ([1], (0, 0, 1, 1, 0)))

    def test_no_rows(self):
        custom = self.custom()
        self.assert_is(True, custom)
        self.assertIs(is_paper_for_all(custom, ALWAYS, always_paper(custom, [([], (0,) * 5)])), False)
        self.assertIs(is_paper_for_all(custom, ALWAYS, always_paper(custom, [([0], (1,) * 5)])), False)

    def test_customs_that_go_on_for_ever_have_none(self):
        custom = self.custom("ppqq", "qqpp")
        for weights in itertools.product(range(3), repeat=2):
            self.assert_is(False, custom, ([0, 1], (0, *weights, 0, 0)))
            self.assert_is(False, custom, ([0], (0, 1, 0, 0, 0)), ([1], (0, *weights, 0, 0)))


class ChoicesTest(unittest.TestCase):
    """What is told, and what may be said, whatever is chosen."""

    def assert_is(self, truth, custom, sentence, paper):
        self.assertEqual(is_plainly_right(custom, sentence, paper), truth)
        self.assertIs(is_paper_for_all(custom, sentence, paper), truth)

    def still(self, *yes, gate="x"):
        return Custom(("x", "y"), (), (("in", gate),), yes=yes)

    def test_a_least_that_is_not_told(self):
        for weight, bound, yes, truth in (
            (1, 1, ("x", "y"), True), (1, 1, ("x",), False), (1, 1, (), False), (1, 2, (), False),
            (1, 2, ("x", "y"), False), (-1, 0, (), True), (-1, -1, (), False), (-1, -1, ("x", "y"), False),
            (0, 0, ("x", "y"), True), (0, 1, (), True),
            (2, -4, ("x", "y"), True), (-2, -4, ("x", "y"), False),
        ):
            sentence = ("least", (weight,), bound)
            self.assert_is(truth, self.still(*yes), sentence, ([], [("x",)], [(weight, 0)]))

    def test_numbers_of_those_beside_the_chosen_ones(self):
        for other, truth in ((-1, False), (0, True), (5, True)):
            self.assert_is(truth, self.still("x", "y"), ("least", (1,), 1), ([], [("x",)], [(1, other)]))
        for other, truth in ((-5, True), (0, True), (1, False)):
            self.assert_is(truth, self.still(), ("least", (-1,), 0), ([], [("x",)], [(-1, other)]))

    def test_a_rest_that_is_not_told(self):
        for weight, other, truth in ((2, 0, True), (2, 1, False), (1, 0, False), (0, -4, True), (4, 3, False)):
            sentence = ("rest", (weight,), 2, 0)
            self.assert_is(truth, self.still("x", "y"), sentence, ([], [("x",)], [(weight, other)]))

    def test_nothing_is_chosen_where_there_is_no_lot(self):
        self.assert_is(True, self.still("x", "y"), ALWAYS, ([], [], [(0, 0)]))
        self.assert_is(False, self.still("x", "y"), ("least", (1,), 1), ([], [], [(1, 0)]))
        self.assert_is(False, self.still("x"), ALWAYS, ([], [], [(0, 0)]))

    def test_each_kind_is_counted_once(self):
        sentence = ("least", (1,), 2)
        self.assert_is(False, self.still("x", "y"), sentence, ([], [("x",), ("x",)], [(1, 0)]))
        self.assert_is(False, self.still("x", "y"), sentence, ([], [("x",), ("x", "y")], [(1, 1)]))

    def test_a_chosen_one_that_has_a_row_with_itself_is_not_beside_itself(self):
        kinds = ("x", "z")
        custom = Custom(kinds, (("x", "x", "x", "z"),), (("in", "x"),), yes=kinds)
        layers = [([0], (1, 0))]
        self.assert_is(True, custom, ("rest", (1,), 1, 0), (layers, [("x",)], [(1, 0)]))
        self.assert_is(True, custom, ("least", (1,), 1), (layers, [("x",)], [(1, 1)]))
        self.assert_is(False, custom, ("least", (1,), 2), (layers, [("x",)], [(1, 1)]))
        self.assert_is(False, custom, ("rest", (1,), 2, 1), (layers, [("x",)], [(1, 1)]))
        grown = Custom((*kinds, "w"), (("x", "x", "z", "w"), ("z", "z", "z", "w")), (("in", "x"),), yes=(*kinds, "w"))
        layers = [([0, 1], (2, 1, 0))]
        self.assert_is(False, grown, ("rest", (3,), 2, 1), (layers, [("x", "z")], [(3, 3, 3)]))
        self.assert_is(True, grown, ("rest", (1,), 1, 0), (layers, [("x", "z")], [(1, 1, 1)]))

    def test_unlike_chosen_ones_have_no_row(self):
        # Chosen by itself x says otherwise; beside y it can't be.
        custom = Custom(("x", "y"), (("x", "x", "y", "y"), ("x", "y", "y", "y")), (("in", "y"),), yes=("y",))
        paper = ([([0, 1], (1, 0))], [("y",), ("x", "y")], [(0, 0)])
        self.assert_is(True, custom, ALWAYS, paper)
        self.assert_is(False, custom, ALWAYS, (paper[0], [("x", "y")], paper[2]))

    def test_a_chosen_one_that_has_no_row_with_itself_is_beside_itself(self):
        for weight, yes, truth in ((1, ("x", "y"), True), (-1, (), False), (-1, ("x", "y"), False)):
            sentence = ("least", (weight,), weight)
            self.assert_is(truth, self.still(*yes), sentence, ([], [("x",)], [(weight, 0)]))

    def test_sums_are_in_the_sentences_order(self):
        least, rest = ("least", (1,), 1), ("rest", (2,), 2, 0)
        custom = self.still("x", "y")
        for word in ("and", "or"):
            self.assert_is(True, custom, (word, least, rest), ([], [("x",)], [(1, 0), (2, 0)]))
            self.assert_is(True, custom, (word, rest, least), ([], [("x",)], [(2, 0), (1, 0)]))
            self.assert_is(False, custom, (word, least, rest), ([], [("x",)], [(2, 0), (1, 0)]))
            self.assert_is(False, custom, (word, rest, least), ([], [("x",)], [(1, 0), (2, 0)]))
        within = ("and", ("or", ("not", least), rest), ("not", ("least", (-1,), 3)))
        self.assert_is(True, custom, within, ([], [("x",)], [(1, 0), (2, 0), (-1, 0)]))
        self.assert_is(False, custom, within, ([], [("x",)], [(1, 0), (-1, 0), (2, 0)]))

    def test_and_or_not_as_they_are(self):
        yes, no = ("least", (1,), 1), ("least", (-1,), 1)
        sums = {yes: (1, 0), no: (-1, 0)}
        for one, other in itertools.product((yes, no), repeat=2):
            paper = ([], [("x",)], [sums[one], sums[other]])
            truths = (one == yes, other == yes)
            for sentence, truth in ((("and", one, other), all(truths)), (("or", one, other), any(truths)),
                                    (("not", ("and", one, other)), not all(truths)),
                                    (("and", ("not", one), other), not truths[0] and truths[1]),
                                    (("or", one, ("not", ("not", other))), any(truths))):
                self.assert_is(truth, self.still("x", "y"), sentence, paper)
                self.assert_is(not truth, self.still(), sentence, paper)
                self.assert_is(False, self.still("x"), sentence, paper)

    def test_each_leaf_has_to_be_told(self):
        # So it is where it needn't be told to say what is so.
        sentence = ("or", ("least", (0,), 0), ("least", (1,), 2))
        self.assert_is(False, self.still("x", "y"), sentence, ([], [("x",)], [(0, 0), (1, 0)]))

    def test_gates_of_one_kind(self):
        custom = Custom(("x", "y"), (), (("in", "x"), ("out", "x")), yes=("x", "y"))
        self.assert_is(True, custom, ("least", (1, 1), 1), ([], [("x",)], [(1, 0)]))
        self.assert_is(False, custom, ("least", (1, 2), 1), ([], [("x",)], [(1, 0)]))
        self.assert_is(True, custom, ("rest", (0, 2), 2, 0), ([], [("x",)], [(4, 0)]))


class TooManyTest(unittest.TestCase):
    KINDS = tuple("abcdefghijklm")

    def paper(self, *lengths, lots=()):
        return always_paper(self.custom(), [], [*lots, *[self.KINDS[:length] for length in lengths]])

    def custom(self, yes=KINDS):
        return Custom(self.KINDS, (), (("in", "a"),), yes=yes, most=13)

    def test_just_where_there_are_more_than_four_thousand(self):
        for lengths in ((10, 10, 10, 4), (13, 11, 7, 3), (2,) * 11, (1,) * 50, (13, 13, 13), (8, 5, 10, 10, 1, 1)):
            self.assertIs(is_paper_for_all(self.custom(), ALWAYS, self.paper(*lengths)), True)
        for lengths in ((13, 11, 7, 4), (2,) * 12, (13, 13, 13, 2), (13,) * 100, (1, 1, 13, 11, 7, 4, 1)):
            with self.assertRaises(TooMany) as raised:
                is_paper_for_all(self.custom(), ALWAYS, self.paper(*lengths))
            self.assertEqual(raised.exception.most, 4000)

    def test_where_folk_would_say_otherwise(self):
        for yes in ((), self.KINDS[:12]):
            with self.assertRaises(TooMany):
                is_paper_for_all(self.custom(yes), ALWAYS, self.paper(*(2,) * 12))
            self.assertIs(is_paper_for_all(self.custom(yes), ALWAYS, self.paper(*(2,) * 11)), False)

    def test_behind_all_else_that_makes_it_none(self):
        custom = self.custom()
        many = (2,) * 12
        layers, lots, sums = self.paper(*many)
        for thing in (
            (layers, tuple(lots), sums), ([([], (0,) * 13)], lots, sums), (layers, [*lots, ()], sums),
            (layers, [*lots, ("b", "c")], sums), (layers, [*lots, ("b", "a")], sums), (layers, lots, [(1,) * 13]),
            (layers, lots, [(0,) * 12]), (layers, lots, sums + sums), [layers, lots, sums], (layers, lots, []),
            (layers, [["a", "b"]] * 12, sums),
        ):
            self.assertIs(is_paper_for_all(custom, ALWAYS, thing), False)
        self.assertIs(is_paper_for_all(custom, ("least", (0, 0), 0), (layers, lots, sums)), False)

    def test_many_choices_are_soon_looked_over(self):
        rows = tuple((one, other, "m", "m") for one, other in itertools.combinations(self.KINDS[:6], 2))
        custom = Custom(self.KINDS, rows, (("in", "a"),), yes=self.KINDS, most=13)
        layers = [(list(range(15)), (1,) * 6 + (0,) * 7)]
        lots = [self.KINDS] * 3
        self.assertIs(is_paper_for_all(custom, ALWAYS, (layers, lots, [(0,) * 13])), True)


class ManyTest(unittest.TestCase):
    """Papers changed in all sorts of ways, against the document's words."""

    def changed(self, chance, custom, paper):
        layers, lots, sums = copy.deepcopy(paper)
        for _ in range(chance.randint(1, 2)):
            way = chance.randrange(9)
            if way == 0 and layers:
                chance.shuffle(layers)
            if way == 1 and len(layers) > 1:
                one, other = chance.sample(range(len(layers)), 2)
                numbers, _ = layers[one]
                layers[other][0].append(numbers.pop(chance.randrange(len(numbers))) if numbers else 0)
            if way == 2 and layers:
                place = chance.randrange(len(layers))
                numbers, weights = layers[place]
                layers[place] = (numbers, self.moved(chance, weights))
            if way == 3 and len(layers) > 1:
                (numbers, weights), (others, more) = layers[:2]
                layers[:2] = [(numbers + others, tuple(3 * one + other for one, other in zip(weights, more)))]
            if way == 4 and lots:
                place = chance.randrange(len(lots))
                lots[place] = tuple(kind for kind in custom.kinds if (kind in lots[place]) != (chance.random() < 0.15))
            if way == 5:
                lots.append(tuple(kind for kind in custom.kinds if chance.random() < 0.7))
            if way == 6 and lots:
                lots.pop(chance.randrange(len(lots)))
            if way in (7, 8):
                place = chance.randrange(len(sums))
                by = chance.choice([1, 1, 2, 3, 5])
                sums[place] = self.moved(chance, sums[place], by)
        return layers, lots, sums

    def moved(self, chance, numbers, by=1):
        place = chance.randrange(len(numbers))
        return (*numbers[:place], numbers[place] + chance.choice([-by, by]), *numbers[place + 1:])

    def test_changed_papers(self):
        chance = random.Random(19)
        told = {True: 0, False: 0}
        cases = [(ODD, ODD_SENTENCE, odd_paper())]
        for sentence in sentences(19, 40, 1):
            try:
                custom, paper = made_for(sentence), paper_for(sentence)
            except TooMany:
                continue
            if len(custom) <= 14:
                cases.append((custom, sentence, paper))
        self.assertGreater(len(cases), 15)
        for custom, sentence, paper in cases:
            for _ in range(60):
                thing = self.changed(chance, custom, paper)
                many = 1
                for lot in thing[1]:
                    many *= len(lot)
                if many > 300:
                    continue
                truth = is_plainly_right(custom, sentence, thing)
                self.assertIs(is_paper_for_all(custom, sentence, thing), truth, (custom, sentence, thing))
                told[truth] += 1
        self.assertGreater(min(told.values()), 150)

    def test_customs_of_all_sorts(self):
        chance = random.Random(20)
        kinds = ("x", "y", "z")
        told = {True: 0, False: 0}
        for _ in range(6000):
            rows = []
            for two in itertools.combinations_with_replacement(range(3), 2):
                ends = tuple(sorted([chance.randrange(3), chance.randrange(3)]))
                if ends != two and chance.random() < 0.4:
                    rows.append(tuple(kinds[place] for place in two + ends))
            yes = chance.choice([(), kinds, kinds, ("x",)])
            custom = Custom(kinds, tuple(rows), (("in", "x"),), yes=yes)
            layers = [([], tuple(chance.randint(0, 2) for _ in kinds)) for _ in range(chance.randint(1, 2))]
            for number in range(len(rows)):
                chance.choice(layers)[0].append(number)
            layers = [layer for layer in layers if layer[0]]
            lots = [chance.choice([kinds, ("x",), ("x", "y"), ("x", "z")]) for _ in range(chance.randint(0, 2))]
            sentence = chance.choice([ALWAYS, ("least", (1,), 1), ("rest", (1,), 2, 1), leaf_of(chance, 1)])
            numbers = chance.choice([(0, 0), (1, 1), (0, 0), (sentence[1][0],) * 2])
            paper = (layers, lots, [(sentence[1][0], *numbers)])
            truth = is_plainly_right(custom, sentence, paper)
            self.assertIs(is_paper_for_all(custom, sentence, paper), truth, (custom, sentence, paper))
            told[truth] += 1
        self.assertGreater(min(told.values()), 150)


if __name__ == "__main__":
    unittest.main()
