"""Customs made for sentences (points 3 and 16)."""

import itertools
import os
import random
import sys
import unittest

sys.path.insert(0, os.path.dirname(os.path.abspath(__file__)))

from plain import counts_up_to, crowd_by, do_all_come_to_say, is_plainly_so, leaf_of, most_kinds_for
from plain import sentences, walked, word_of

from crowdsay.customs import MOST_KINDS, Custom
from crowdsay.errors import TooMany
from crowdsay.made import made_for
from crowdsay.meetings import behind, can_be_done
from crowdsay.questions import plainly
from crowdsay.rounds import says

MOST_WALKED = 1500


def made_or_none(sentence):
    try:
        return made_for(sentence)
    except TooMany:
        return None


class MadeTest(unittest.TestCase):
    def assert_says_it(self, sentence, custom, counts, crowd=None):
        """Tell whether all that comes could be walked through."""
        leads = walked(custom, crowd_by(custom, counts) if crowd is None else crowd, MOST_WALKED)
        if leads is None:
            return False
        word = word_of(is_plainly_so(sentence, counts))
        self.assertTrue(do_all_come_to_say(custom, leads, word), (sentence, counts, crowd))
        return True

    def assert_says_all(self, sentence, most_folk):
        custom = made_for(sentence)
        walks = [self.assert_says_it(sentence, custom, counts) for counts in counts_up_to(len(custom.gates), most_folk)]
        self.assertTrue(walks[0])
        return sum(walks)

    def test_is_defined_in_this_file(self):
        self.assertEqual(made_for.__module__, "crowdsay.made")

    def test_tells_a_custom_by_place_and_by_name(self):
        self.assertIsInstance(made_for(("least", (1,), 2)), Custom)
        self.assertEqual(made_for(sentence=("rest", (1,), 2, 0)), made_for(("rest", (1,), 2, 0)))

    def test_gates_are_a_b_c_in_order(self):
        for many in (1, 2, 3):
            for sentence in (("least", (1, -2, 0)[:many], 2), ("rest", (1, 2, 1)[:many], 3, 1)):
                for around in (sentence, ("not", sentence), ("and", sentence, ("rest", (1,) * many, 2, 0))):
                    with self.subTest(sentence=around):
                        self.assertEqual(tuple(word for word, _ in made_for(around).gates), ("a", "b", "c")[:many])

    def test_leasts_of_one_weight(self):
        for weight, bound in itertools.product(range(-3, 4), range(-4, 5)):
            self.assertGreaterEqual(self.assert_says_all(("least", (weight,), bound), 7), 6)

    def test_leasts_of_more_weights(self):
        for sentence in (
            ("least", (1, -1), 0), ("least", (1, -1), 1), ("least", (-1, 1), 1), ("least", (2, -3), -1),
            ("least", (3, -2), 4), ("least", (0, 1), 1), ("least", (0, 0), 0), ("least", (0, 0), 1),
            ("least", (1, 0, -1), 1), ("least", (1, 1, -2), 0), ("least", (-3, 3, 1), -4), ("least", (1, 2, 3), 4),
        ):
            with self.subTest(sentence=sentence):
                self.assertGreater(self.assert_says_all(sentence, 5), 5)

    def test_bounds_that_are_always_or_never_met(self):
        for sentence, word in (
            (("least", (1, 1), 0), "yes"), (("least", (2,), -4), "yes"), (("least", (0,), 0), "yes"),
            (("least", (0,), 1), "no"), (("least", (-1,), 1), "no"), (("least", (0, 0, 0), 4), "no"),
            (("rest", (0,), 3, 0), "yes"), (("rest", (0,), 3, 2), "no"), (("rest", (2, 2), 4, 1), "no"),
        ):
            with self.subTest(sentence=sentence):
                custom = made_for(sentence)
                for counts in counts_up_to(len(custom.gates), 5):
                    self.assertEqual(says(custom, crowd_by(custom, counts)), word)

    def test_rests(self):
        for parts in range(2, 6):
            for rest in range(parts):
                self.assertEqual(self.assert_says_all(("rest", (1,), parts, rest), 8), 8)
                self.assertGreater(self.assert_says_all(("rest", (3, -2), parts, rest), 5), 5)
        self.assertGreater(self.assert_says_all(("rest", (1, -3, 2), 5, 3), 5), 5)

    def test_not_and_or(self):
        one, other, third = ("least", (1, -1), 1), ("rest", (1, 1), 2, 0), ("least", (0, 1), 1)
        for sentence in (
            ("not", one), ("not", ("not", other)), ("and", one, other), ("or", one, other), ("and", other, third),
            ("or", ("not", other), third), ("not", ("and", third, other)), ("and", third, ("least", (1, 0), 1)),
            ("and", other, other), ("or", other, ("not", other)), ("and", ("not", third), third),
        ):
            with self.subTest(sentence=sentence):
                self.assertGreater(self.assert_says_all(sentence, 5), 5)

    def test_many_sentences(self):
        walks = 0
        for sentence in sentences(16, 250):
            custom = made_or_none(sentence)
            if custom is not None:
                for counts in counts_up_to(len(custom.gates), 4):
                    walks += self.assert_says_it(sentence, custom, counts)
        self.assertGreater(walks, 3000)

    def test_who_comes_later_is_counted_too(self):
        chance = random.Random(3)
        walks = 0
        for sentence in sentences(17, 250):
            custom = made_or_none(sentence)
            if custom is None:
                continue
            counts = [0] * len(custom.gates)
            crowd = (0,) * len(custom)
            for _ in range(5):
                gate = chance.randrange(len(counts))
                counts[gate] += 1
                crowd = tuple(map(sum, zip(crowd, crowd_by(custom, [int(at == gate) for at in range(len(counts))]))))
                for _ in range(chance.randint(0, 5)):
                    numbers = can_be_done(custom, crowd)
                    if numbers:
                        crowd = behind(custom, crowd, chance.choice(numbers))
            walks += self.assert_says_it(sentence, custom, counts, crowd)
        self.assertGreater(walks, 150)

    def test_no_more_kinds_than_the_document_allows(self):
        for sentence in sentences(18, 600) + [leaf_of(random.Random(seed), 1 + seed % 3) for seed in range(200)]:
            custom = made_or_none(sentence)
            if custom is not None:
                self.assertLessEqual(len(custom), min(MOST_KINDS, most_kinds_for(sentence)), sentence)

    def test_no_more_kinds_than_those_made_for_the_parts(self):
        for sentence in sentences(19, 300):
            custom = made_or_none(sentence)
            if custom is None or sentence[0] in ("least", "rest"):
                continue
            lengths = [len(made_for(part)) for part in sentence[1:]]
            self.assertLessEqual(len(custom), lengths[0] * lengths[-1] if len(lengths) == 2 else lengths[0])

    def test_refused_with_sixty_only_where_the_bounds_come_to_more(self):
        refused = 0
        for sentence in sentences(20, 800):
            try:
                made_for(sentence)
            except TooMany as error:
                refused += 1
                self.assertEqual(error.most, 60)
                self.assertGreater(most_kinds_for(sentence), 60)
        self.assertGreater(refused, 10)

    def test_told_sentences_with_great_numbers_are_refused_or_made(self):
        for sentence in (("least", (1,), 1000), ("least", (1, -1), 10 ** 60), ("rest", (1, 1), 10 ** 60, 3)):
            with self.assertRaises(TooMany) as raised:
                made_for(sentence)
            self.assertEqual(raised.exception.most, MOST_KINDS)
        self.assertGreater(self.assert_says_all(("rest", (1,), 40, 7), 9), 6)
        self.assertGreater(self.assert_says_all(("rest", (1, 5), 1, 0), 5), 5)
        self.assertGreater(self.assert_says_all(("least", (10 ** 60,), 7), 9), 6)

    def test_told_sentences_are_made_as_others_are(self):
        for question in (("some", ("least", (2, -1), 1)), ("all", ("rest", (1, 2), 2, 1)),
                         ("some", ("rest", (1, 3), 5, 2)), ("all", ("least", (1, 1, 1), 2))):
            with self.subTest(question=question):
                self.assertGreater(self.assert_says_all(plainly(question), 4), 3)

    def test_sentences_within_three_hundred_others(self):
        sentence = ("least", (1,), 2)
        for _ in range(300):
            sentence = ("not", sentence)
        self.assertEqual(made_for(sentence), made_for(("least", (1,), 2)))

    def test_asked_again_it_is_the_same(self):
        for sentence in sentences(21, 60):
            self.assertEqual(made_or_none(sentence), made_or_none(sentence))

    def test_whatever_the_bounds_allow_is_made(self):
        for sentence in (
            ("least", (3, -3, 1), 4), ("least", (-3, 3, 0), -4), ("not", ("least", (1, -1, 0), 4)),
            ("and", ("rest", (1, 2), 5, 1), ("rest", (2, 1), 5, 3)), ("or", ("least", (1,), 1), ("rest", (1,), 2, 0)),
            ("or", ("least", (-1, 1), 0), ("rest", (1, -1), 4, 2)), ("and", ("least", (1,), -1), ("rest", (1,), 2, 1)),
        ):
            self.assertLessEqual(most_kinds_for(sentence), 60)
            self.assertGreater(self.assert_says_all(sentence, 4), 3)


if __name__ == "__main__":
    unittest.main()
