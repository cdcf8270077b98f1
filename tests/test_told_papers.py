"""Papers for all crowds that are told: for sentences, for customs turned and joined (points 2, 18 and 19)."""

import copy
import itertools
import os
import random
import sys
import unittest

sys.path.insert(0, os.path.dirname(os.path.abspath(__file__)))

from plain import leaves_of, most_kinds_for, sentences
from plainpapers import ALWAYS, ODD, ODD_SENTENCE, always_paper, is_plainly_right, odd_paper

from crowdsay.customs import Custom
from crowdsay.errors import TooMany
from crowdsay.forall import MOST_CHOICES, is_paper_for_all, joined_papers, paper_for, turned_paper
from crowdsay.joined import joined, turned
from crowdsay.made import made_for
from crowdsay.questions import plainly

MOST_LOOKED_OVER = 150


def many_choices(paper):
    many = 1
    for lot in paper[1]:
        many *= len(lot)
    return many


def mixed(custom, paper, chance):
    """The same custom with its kinds in another order, and its paper."""
    order = list(range(len(custom)))
    chance.shuffle(order)
    kinds = tuple(custom.kinds[place] for place in order)
    rows = []
    for number, (a, b, c, d) in enumerate(custom.rows):
        rows.append((tuple(sorted([kinds.index(a), kinds.index(b)])), number, tuple(sorted([c, d], key=kinds.index))))
    rows.sort()
    new_numbers = {number: place for place, (_, number, _) in enumerate(rows)}
    new_rows = tuple((kinds[a], kinds[b], *ends) for (a, b), _, ends in rows)
    yes = tuple(kind for kind in kinds if kind in custom.yes)
    layers, lots, sums = paper
    new_layers = [
        (sorted(new_numbers[number] for number in numbers), tuple(weights[place] for place in order))
        for numbers, weights in layers
    ]
    new_lots = [tuple(kind for kind in kinds if kind in lot) for lot in lots]
    new_sums = [tuple(numbers[place] for place in order) for numbers in sums]
    return Custom(kinds, new_rows, custom.gates, yes=yes, most=60), (new_layers, new_lots, new_sums)


def found_by_chance(seed, times):
    """Small customs of all sorts with right papers that nobody told."""
    chance = random.Random(seed)
    kinds = ("x", "y", "z")
    found = []
    for _ in range(times):
        rows = []
        for two in itertools.combinations_with_replacement(range(3), 2):
            ends = tuple(sorted([chance.randrange(3), chance.randrange(3)]))
            if ends != two and chance.random() < 0.5:
                rows.append(tuple(kinds[place] for place in two + ends))
        custom = Custom(kinds, tuple(rows), (("in", chance.choice(kinds)),), yes=chance.choice([(), kinds]))
        layers = [([], tuple(chance.randint(0, 2) for _ in kinds)) for _ in range(chance.randint(1, 3))]
        for number in range(len(rows)):
            chance.choice(layers)[0].append(number)
        layers = [layer for layer in layers if layer[0]]
        lots = [chance.choice([kinds, ("x", "y"), ("y", "z"), ("z",)]) for _ in range(chance.randint(0, 2))]
        weight = chance.choice([0, 1, 1, -1, 2])
        sentence = chance.choice([("least", (weight,), weight), ("rest", (weight,), 2, 1), ("least", (weight,), 2)])
        paper = (layers, lots, [tuple(weight for _ in kinds)])
        if rows and is_plainly_right(custom, sentence, paper):
            found.append((custom, sentence, paper))
    return found


def cases():
    """Customs of one gate, sentences and right papers of all sorts."""
    chance = random.Random(8)
    found = [(ODD, ODD_SENTENCE, odd_paper())]
    still = Custom(("x", "y"), (), (("out", "x"),), yes=("x", "y"))
    found.append((still, ALWAYS, always_paper(still, [])))
    found.append((still, ("least", (2,), 1), ([], [("x",)], [(2, 5)])))
    found.append((still, ("rest", (2,), 2, 0), ([], [("x",), ("x", "y"), ("x",)], [(2, 4)])))
    layers = [([2, 0, 1, 3], (2, 2, 1, 0)), ([4], (0, 0, 0, 5))]
    found.append((ODD, ODD_SENTENCE, (layers, [("odd", "even", "n"), ("odd", "even")], [(3, 4, 0, -2)])))
    found.extend(found_by_chance(9, 6000)[:12])
    for sentence in (
        ("least", (1,), 1), ("rest", (2,), 3, 1), ("least", (-1,), -1), ("not", ("least", (2,), 3)),
        ("and", ("rest", (1,), 2, 0), ("least", (1,), 1)), ("or", ("least", (0,), 1), ("rest", (1,), 2, 1)),
    ):
        custom, paper = mixed(made_for(sentence), paper_for(sentence), chance)
        found.append((custom, sentence, paper))
    return found


CASES = cases()


class TestCase(unittest.TestCase):
    def assert_right(self, custom, sentence, paper):
        self.assertIsInstance(paper, tuple)
        self.assertIs(is_paper_for_all(custom, sentence, paper), True, (custom, sentence, paper))
        if many_choices(paper) <= MOST_LOOKED_OVER and len(custom) <= 18:
            self.assertTrue(is_plainly_right(custom, sentence, paper))


class PaperForTest(TestCase):
    def test_all_is_defined_in_this_file(self):
        for thing in (paper_for, joined_papers, turned_paper):
            self.assertEqual(thing.__module__, "crowdsay.forall")

    def test_of_leasts(self):
        for weight, bound in itertools.product(range(-3, 4), range(-4, 5)):
            sentence = ("least", (weight,), bound)
            self.assert_right(made_for(sentence), sentence, paper_for(sentence))
        for sentence in (("least", (3, -3, 1), 4), ("least", (-2, 1), 0), ("least", (0, 0, 0), 0)):
            self.assert_right(made_for(sentence), sentence, paper_for(sentence=sentence))

    def test_of_rests(self):
        for parts in range(1, 6):
            for rest, weights in itertools.product(range(parts), ((1,), (0,), (-3, 2), (1, 2, 3), (2, -2))):
                sentence = ("rest", weights, parts, rest)
                self.assert_right(made_for(sentence), sentence, paper_for(sentence))

    def test_of_many_sentences(self):
        many = 0
        for sentence in sentences(18, 350):
            try:
                custom = made_for(sentence)
                told = paper_for(sentence)
            except TooMany:
                continue
            self.assert_right(custom, sentence, told)
            self.assertEqual(len(told[1]), len(leaves_of(sentence)))
            many += len(leaves_of(sentence)) > 1
        self.assertGreater(many, 80)

    def test_of_told_sentences(self):
        for question in (("some", ("least", (2, -1), 1)), ("all", ("rest", (1, 2), 2, 1))):
            sentence = plainly(question)
            self.assert_right(made_for(sentence), sentence, paper_for(sentence))
        sentence = ("least", (10 ** 60,), 7)
        self.assert_right(made_for(sentence), sentence, paper_for(sentence))

    def test_within_three_hundred_others(self):
        sentence = ("rest", (1,), 2, 0)
        for _ in range(300):
            sentence = ("not", sentence)
        self.assert_right(made_for(sentence), sentence, paper_for(sentence))

    def test_refused_as_the_custom_is(self):
        refused = {60: 0, 4000: 0}
        for sentence in sentences(23, 700):
            most = self.refused_with(paper_for, sentence)
            if self.refused_with(made_for, sentence) == 60:
                self.assertEqual(most, 60)
            else:
                self.assertIn(most, (None, MOST_CHOICES))
            if most is not None:
                self.assertGreater(most_kinds_for(sentence), 60)
                refused[most] += 1
        self.assertGreater(min(refused.values()), 5)

    def test_refused_as_the_custom_is_ahead_of_all_else(self):
        # Already a part of it would have too many choices.
        many = 0
        for part in sentences(24, 400):
            whole = ("and", part, ("least", (3, -2, 1)[:len(leaves_of(part)[0][1])], 4))
            if self.refused_with(made_for, whole) == 60:
                self.assertEqual(self.refused_with(paper_for, whole), 60)
                many += self.refused_with(paper_for, part) == MOST_CHOICES
        self.assertGreater(many, 2)

    def refused_with(self, ask, sentence):
        try:
            ask(sentence)
        except TooMany as error:
            return error.most
        return None

    def test_what_is_told_is_the_askers_own(self):
        for sentence in (("least", (1, -1), 1), ("rest", (1,), 3, 2), ("not", ("rest", (1,), 2, 0)),
                         ("and", ("rest", (1,), 2, 0), ("least", (1,), 1))):
            first, second = paper_for(sentence), paper_for(sentence)
            self.assertEqual(first, second)
            for numbers, _ in first[0]:
                numbers.clear()
            for part in first:
                part.clear()
            self.assertEqual(paper_for(sentence), second)


class TurnedPaperTest(TestCase):
    def test_of_all_sorts(self):
        for custom, sentence, paper in CASES:
            self.assertTrue(is_plainly_right(custom, sentence, paper))
            told = turned_paper(custom, paper)
            self.assert_right(turned(custom), ("not", sentence), told)
            self.assertEqual(len(told[1]), len(paper[1]))

    def test_by_name(self):
        self.assertEqual(turned_paper(one=odd_paper(), custom=ODD), turned_paper(ODD, odd_paper()))

    def test_what_is_handed_in_stays_and_is_not_kept(self):
        for custom, _, paper in CASES:
            before = copy.deepcopy(paper)
            told = turned_paper(custom, paper)
            again = turned_paper(custom, paper)
            for numbers, _ in told[0]:
                numbers.append(7)
            for part in told:
                part.append(7)
            self.assertEqual(paper, before)
            self.assertEqual(turned_paper(custom, paper), again)


class JoinedPapersTest(TestCase):
    def test_of_all_sorts(self):
        many = 0
        for (custom, first, one), (other, second, two) in itertools.product(CASES, repeat=2):
            for word in ("and", "or"):
                try:
                    told = joined_papers(custom, other, one, two, word=word)
                except TooMany as error:
                    self.assert_rightly_refused(error, custom, other, one, two)
                    continue
                self.assert_right(joined(custom, other, word=word), (word, first, second), told)
                self.assertEqual(len(told[1]), len(one[1]) + len(two[1]))
                many += 1
        self.assertGreater(many, 700)

    def assert_rightly_refused(self, error, custom, other, one, two):
        self.assertIn(error.most, (60, MOST_CHOICES))
        self.assertGreater(len(custom) * len(other), 60)

    def test_the_cases_are_of_all_sorts(self):
        self.assertGreater(len(CASES), 20)
        self.assertEqual({len(paper[1]) for _, _, paper in CASES}, {0, 1, 2, 3})
        self.assertTrue({0, 1, 2, 3} <= {len(paper[0]) for _, _, paper in CASES})

    def test_the_word_left_out_is_and(self):
        still, sentence, paper = CASES[1]
        told = joined_papers(ODD, still, odd_paper(), paper)
        self.assertEqual(told, joined_papers(ODD, still, odd_paper(), paper, word="and"))
        self.assert_right(joined(ODD, still), ("and", ODD_SENTENCE, sentence), told)

    def test_by_name(self):
        still, _, paper = CASES[1]
        told = joined_papers(word="or", two=paper, one=odd_paper(), other=still, custom=ODD)
        self.assertEqual(told, joined_papers(ODD, still, odd_paper(), paper, word="or"))

    def test_of_three_gates(self):
        for first, second in ((("least", (1, -1, 0), 1), ("rest", (1, 1, 1), 2, 0)), (("rest", (1, 2, 0), 3, 1),) * 2):
            one, two = paper_for(first), paper_for(second)
            told = joined_papers(made_for(first), made_for(second), one, two, word="or")
            self.assert_right(joined(made_for(first), made_for(second), word="or"), ("or", first, second), told)

    def test_joined_papers_joined_once_more(self):
        sentence = ("and", ODD_SENTENCE, ODD_SENTENCE)
        twice = joined(ODD, ODD)
        paper = joined_papers(ODD, ODD, odd_paper(), odd_paper())
        told = joined_papers(twice, turned(ODD), paper, turned_paper(ODD, odd_paper()), word="or")
        self.assert_right(joined(twice, turned(ODD), word="or"), ("or", sentence, ("not", ODD_SENTENCE)), told)

    def test_refused_where_there_would_be_too_many_choices(self):
        # Each joined lot has at least as many kinds as there are of it that come.
        still = Custom(("x", "y"), (), (("in", "x"),), yes=("x", "y"))
        many = (always_paper(ODD, [])[0], [("odd", "even")] * 11, odd_paper()[2])
        paper = (odd_paper()[0], many[1], many[2])
        self.assertIs(is_paper_for_all(ODD, ODD_SENTENCE, paper), True)
        with self.assertRaises(TooMany) as raised:
            joined_papers(ODD, ODD, paper, paper)
        self.assertEqual(raised.exception.most, MOST_CHOICES)
        self.assertEqual(len(joined_papers(ODD, still, paper, always_paper(still, []))[1]), 11)

    def test_refused_as_the_custom_is_ahead_of_that(self):
        first, second = ("least", (3, -2), 4), ("least", (-3, 1), 4)
        one, two = paper_for(first), paper_for(second)
        many = (one[0], one[1] * 3, one[2])
        for paper in (one, many):
            with self.assertRaises(TooMany) as raised:
                joined(made_for(first), made_for(second))
            with self.assertRaises(TooMany) as refused:
                joined_papers(made_for(first), made_for(second), paper, two)
            self.assertEqual((raised.exception.most, refused.exception.most), (60, 60))

    def test_what_is_handed_in_stays_and_is_not_kept(self):
        for (custom, _, one), (other, _, two) in zip(CASES, CASES[1:]):
            before = copy.deepcopy((one, two))
            try:
                told = joined_papers(custom, other, one, two)
            except TooMany:
                continue
            again = copy.deepcopy(told)
            for numbers, _ in told[0]:
                numbers.append(7)
            for part in told:
                part.append(7)
            self.assertEqual((one, two), before)
            self.assertEqual(joined_papers(custom, other, one, two), again)


if __name__ == "__main__":
    unittest.main()
