"""Questions of some and all: whether they hold, by which number, and put plainly (points 2, 14 and 15)."""

import itertools
import random
import unittest

from crowdsay.questions import holds, plainly, witness
from crowdsay.sentences import is_so, many_of, show_sentence

MILLION = 10 ** 6
# Above all bounds and all rests of sentences of the bounds told, where counts are below 7.
FAR = 120


def both(one, other):
    return ("and", one, other)


def either(one, other):
    return ("or", one, other)


def just(*weights, worth=0):
    """The counts, each times its weight, come to just this."""
    return both(("least", weights, worth), ("least", tuple([-weight for weight in weights]), -worth))


def a_leaf(chance, many):
    weights = tuple([chance.randint(-3, 3) for _ in range(many)])
    if chance.random() < 0.5:
        return ("least", weights, chance.randint(-4, 4))
    parts = chance.randint(2, 5)
    return ("rest", weights, parts, chance.randrange(parts))


def a_sentence(chance, many, around=2):
    if around == 0 or chance.random() < 0.15:
        return a_leaf(chance, many)
    word = chance.choice(("and", "or", "and", "or", "not"))
    if word == "not":
        return ("not", a_sentence(chance, many, around - 1))
    return (word, a_sentence(chance, many, around - 1), a_sentence(chance, many, around - 1))


def first_by_walking(question, counts, far=FAR):
    word, sentence = question
    for number in range(far):
        if is_so(sentence, (*counts, number)) is (word == "some"):
            return number
    return None


def around(sentence):
    if sentence[0] in ("least", "rest"):
        return 0
    return 1 + max([around(part) for part in sentence[1:]])


def leaves(sentence):
    if sentence[0] in ("least", "rest"):
        return [sentence]
    return [leaf for part in sentence[1:] for leaf in leaves(part)]


class QuestionTest(unittest.TestCase):
    def asked(self, question, counts, expected):
        """Where expected is a number, it is the witness."""
        with self.subTest(question=question, counts=counts):
            self.assertEqual(witness(question, counts), expected)
            self.assertIs(holds(question, counts), (expected is not None) is (question[0] == "some"))
            self.assertIs(is_so(plainly(question), counts), holds(question, counts))

    def is_well_made(self, sentence, many):
        """Such as a told sentence may be."""
        self.assertEqual(many_of(sentence), many)
        self.assertTrue(around(sentence) <= 300)
        for leaf in leaves(sentence):
            self.assertTrue(all([type(number) is int for number in (*leaf[1], *leaf[2:])]))
            self.assertEqual((type(leaf), type(leaf[1]), len(leaf[1])), (tuple, tuple, many))
            if leaf[0] == "rest":
                self.assertEqual(len(leaf), 4)
                self.assertTrue(leaf[2] >= 1 and 0 <= leaf[3] < leaf[2])
            else:
                self.assertEqual(len(leaf), 3)


class WitnessTest(QuestionTest):
    def test_all_is_defined_in_this_file(self):
        for thing in (holds, witness, plainly):
            self.assertEqual(thing.__module__, "crowdsay.questions")

    def test_of_some_least(self):
        question = ("some", ("least", (-1, 1), 0))
        for count in (0, 1, 7, 999999, MILLION):
            self.asked(question, (count,), count)
        question = ("some", ("least", (-1, 3), 2))
        for count in range(12):
            self.asked(question, (count,), -(-(count + 2) // 3))
        question = ("some", ("least", (1, -1), 3))
        for count in range(6):
            self.asked(question, (count,), 0 if count >= 3 else None)

    def test_of_all_least(self):
        question = ("all", ("least", (1, -1), 0))
        for count in (0, 1, 7, 999999, MILLION):
            self.asked(question, (count,), count + 1)
        question = ("all", ("least", (1, -2), 1))
        for count in range(9):
            self.asked(question, (count,), (count + 1) // 2)
        question = ("all", ("least", (1, 2), 3))
        for count in range(6):
            self.asked(question, (count,), None if count >= 3 else 0)

    def test_of_rests(self):
        for count in range(11):
            self.asked(("some", ("rest", (1, 1), 5, 3)), (count,), (3 - count) % 5)
            self.asked(("some", ("rest", (1, 2), 4, 1)), (count,), {1: 0, 3: 1}.get(count % 4))
            self.asked(("all", ("rest", (1, 1), 5, 3)), (count,), 1 if count % 5 == 3 else 0)
            self.asked(("all", ("rest", (1, 3), 3, 1)), (count,), None if count % 3 == 1 else 0)
            self.asked(("all", ("not", ("rest", (1, 2), 4, 1))), (count,), {1: 0, 3: 1}.get(count % 4))

    def test_weights_of_nought_behind_the_counts(self):
        for count in range(6):
            self.asked(("some", ("least", (1, 0), 3)), (count,), 0 if count >= 3 else None)
            self.asked(("all", ("least", (1, 0), 3)), (count,), None if count >= 3 else 0)
            self.asked(("some", ("rest", (1, 0), 3, 1)), (count,), 0 if count % 3 == 1 else None)
            self.asked(("all", ("rest", (1, 0), 3, 1)), (count,), None if count % 3 == 1 else 0)
            self.asked(("some", ("least", (0, 0), 1)), (count,), None)
            self.asked(("all", ("least", (0, 0), 0)), (count,), None)
            self.asked(("some", ("least", (0, 0), 0)), (count,), 0)
            self.asked(("all", ("least", (0, 0), 1)), (count,), 0)

    def test_rests_beside_leasts(self):
        question = ("some", both(("least", (-1, 1), 1), ("rest", (0, 1), 5, 2)))
        for count in (0, 1, 2, 3, 7, 8, 999996, 999997, MILLION):
            above = count + 1
            self.asked(question, (count,), above + (2 - above) % 5)
        question = ("some", both(("least", (1, -1), 0), ("rest", (0, 1), 4, 3)))
        for count in (0, 2, 3, 4, MILLION):
            self.asked(question, (count,), 3 if count >= 3 else None)
        question = ("some", both(just(1, -2), ("rest", (0, 1), 3, 1)))
        for count in (0, 1, 2, 7, 8, 9, MILLION - 1, MILLION):
            self.asked(question, (count,), count // 2 if count % 6 == 2 else None)

    def test_a_gap_that_is_too_narrow(self):
        # Between n and n + 2 no number leaves 4 by 5 but for some n.
        question = ("some", both(both(("least", (-1, 1), 0), ("least", (1, -1), -2)), ("rest", (0, 1), 5, 4)))
        for count in (*range(12), MILLION, MILLION - 1):
            off = (4 - count) % 5
            self.asked(question, (count,), count + off if off <= 2 else None)

    def test_of_two_counts(self):
        question = ("some", just(1, 1, -2))
        for counts in ((0, 0), (1, 0), (3, 5), (3, 4), (MILLION, MILLION), (MILLION, MILLION - 1)):
            self.asked(question, counts, sum(counts) // 2 if sum(counts) % 2 == 0 else None)
        question = ("all", either(("least", (1, 0, -1), 0), ("least", (0, -1, 1), 0)))
        for counts in ((3, 3), (3, 4), (3, 5), (5, 3), (MILLION, 0), (0, MILLION), (MILLION - 2, MILLION)):
            self.asked(question, counts, counts[0] + 1 if counts[0] + 1 < counts[1] else None)

    def test_far_from_nought(self):
        question = ("some", both(("least", (-3, 1), 4), ("rest", (1, 1), 5, 0)))
        least = 3 * MILLION + 4
        self.asked(question, (MILLION,), least + -(MILLION + least) % 5)
        question = ("some", both(("least", (-3, -3, 1), 4), ("not", ("rest", (0, 0, 1), 2, 0))))
        self.asked(question, (MILLION, MILLION), 6 * MILLION + 5)
        question = ("all", ("not", both(("least", (-3, 0, 1), 1), ("least", (0, 3, -1), 2))))
        self.asked(question, (MILLION - 1, MILLION), 3 * MILLION - 2)
        self.asked(question, (MILLION, MILLION), None)

    def test_the_least_of_several(self):
        question = ("some", either(("least", (-1, 1), 2), both(("least", (-1, -1), -3), ("rest", (0, 1), 2, 1))))
        for count, expected in ((0, 1), (1, 1), (2, 1), (3, 5), (4, 6)):
            self.asked(question, (count,), expected)

    def test_against_walking(self):
        chance = random.Random(15)
        for number in range(700):
            many = 2 + number % 2
            question = (chance.choice(("some", "all")), a_sentence(chance, many))
            told = plainly(question)
            self.is_well_made(told, many - 1)
            for _ in range(12):
                counts = tuple([chance.randrange(7) for _ in range(many - 1)])
                found = first_by_walking(question, counts)
                with self.subTest(question=question, counts=counts):
                    self.assertEqual(witness(question, counts), found)
                    self.assertIs(holds(question, counts), (found is not None) is (question[0] == "some"))
                    self.assertIs(is_so(told, counts), holds(question, counts))

    def test_great_counts_against_plainly(self):
        chance = random.Random(16)
        for number in range(300):
            many = 2 + number % 2
            question = (chance.choice(("some", "all")), a_sentence(chance, many))
            told = plainly(question)
            for _ in range(6):
                counts = tuple([chance.choice((0, MILLION, chance.randrange(MILLION))) for _ in range(many - 1)])
                found = witness(question, counts)
                with self.subTest(question=question, counts=counts):
                    self.assertIs(is_so(told, counts), holds(question, counts))
                    self.assertIs(holds(question, counts), (found is not None) is (question[0] == "some"))
                    if found is not None:
                        self.assertTrue(found >= 0)
                        self.assertIs(is_so(question[1], (*counts, found)), question[0] == "some")
                        for less in range(max(0, found - 70), found):
                            self.assertIs(is_so(question[1], (*counts, less)), question[0] != "some")

    def test_the_kinds_of_values(self):
        question = ("some", ("least", (-1, 1), 0))
        self.assertIs(type(witness(question, (3,))), int)
        self.assertIs(holds(question, (3,)), True)
        self.assertIs(holds(("all", ("least", (-1, 1), 0)), (3,)), False)

    def test_by_name(self):
        question = ("some", ("least", (-1, 1), 0))
        self.assertEqual(witness(counts=(3,), question=question), 3)
        self.assertIs(holds(counts=(3,), question=question), True)
        self.assertEqual(many_of(plainly(question=question)), 1)


class PlainlyTest(QuestionTest):
    def same(self, question, tell, most=40):
        """What is plainly told is so just where tell is."""
        told = plainly(question)
        many = many_of(question[1]) - 1
        self.is_well_made(told, many)
        for counts in itertools.product(range(most), repeat=many):
            with self.subTest(question=question, counts=counts):
                self.assertIs(is_so(told, counts), tell(*counts))
                self.assertIs(holds(question, counts), tell(*counts))
        return told

    def test_of_sums_and_multiples(self):
        self.same(("some", just(1, -2)), lambda n: n % 2 == 0)
        self.same(("some", just(1, -3, worth=2)), lambda n: n >= 2 and n % 3 == 2)
        self.same(("some", just(2, -3)), lambda n: n % 3 == 0)
        self.same(("some", just(3, -2, worth=-1)), lambda n: n % 2 == 1)
        self.same(("some", just(1, -1, -2)), lambda n, o: n >= o and (n - o) % 2 == 0, 12)
        self.same(("some", just(1, 1, -3)), lambda n, o: (n + o) % 3 == 0, 12)

    def test_of_always_and_never(self):
        for word in ("some", "all"):
            self.same((word, ("least", (0, 0), 0)), lambda n: True)
            self.same((word, ("least", (0, 0), 1)), lambda n: False)
            self.same((word, ("least", (0, 0, 0), 0)), lambda n, o: True, 5)
            self.same((word, ("least", (0, 0, 0), 1)), lambda n, o: False, 5)
        self.same(("some", ("least", (-3, 1), 4)), lambda n: True)
        self.same(("all", ("least", (3, -1), -4)), lambda n: False)

    def test_of_all(self):
        self.same(("all", ("least", (2, 1), 4)), lambda n: n >= 2)
        self.same(("all", either(("least", (1, -1), 0), ("least", (-2, 1), 1))), lambda n: True if n == 0 else False)
        self.same(("all", ("not", just(1, -3))), lambda n: n % 3 != 0)
        self.same(("all", either(("least", (0, 0, 1), 4), ("least", (1, -1, -1), 0))), lambda n, o: n - o >= 3, 12)

    def test_what_is_told_is_a_sentence_for_all_others(self):
        chance = random.Random(17)
        for _ in range(40):
            question = (chance.choice(("some", "all")), a_sentence(chance, 3))
            told = plainly(question)
            self.assertEqual(many_of(told), 2)
            text = show_sentence(told)
            self.assertTrue(text.startswith(("least ", "rest ", "(", "not ")))
            for counts in ((0, 0), (3, 4), (MILLION, 0), (MILLION, MILLION)):
                self.assertIs(is_so(told, counts), holds(question, counts))

    def test_as_a_question_s_sentence_again(self):
        chance = random.Random(18)
        for _ in range(250):
            once = plainly((chance.choice(("some", "all")), a_sentence(chance, 3)))
            again = (chance.choice(("some", "all")), once)
            told = plainly(again)
            self.is_well_made(told, 1)
            for count in (*[chance.randrange(40) for _ in range(5)], chance.randrange(MILLION), MILLION):
                found = witness(again, (count,))
                with self.subTest(again=again, count=count):
                    self.assertIs(holds(again, (count,)), (found is not None) is (again[0] == "some"))
                    self.assertIs(is_so(told, (count,)), holds(again, (count,)))
                    if count < 40:
                        walked = first_by_walking(again, (count,))
                        self.assertTrue(found == walked or (walked is None and found >= FAR))

    def test_of_two_that_are_put_behind(self):
        # n is 2 times one number and 3 times another; 3 and 5 together; and so on.
        for sentence, tell in (
            (just(1, -2, -3), lambda n: n != 1),
            (both(just(1, -3, -2), ("rest", (0, 1, 1), 2, 0)), lambda n: n in self.sums_of_an_even_number(3, 2)),
            (both(just(1, -3, -3), ("least", (0, 1, -1), 3)), lambda n: n % 3 == 0 and n >= 9),
            (both(just(2, -3, -3, worth=1), ("rest", (0, 1, -1), 5, 2)),
             lambda n: (2 * n - 1) % 3 == 0 and 2 * n - 1 >= 6 and self.has_difference((2 * n - 1) // 3)),
        ):
            again = ("some", plainly(("some", sentence)))
            told = plainly(again)
            self.is_well_made(told, 1)
            for count in range(60):
                with self.subTest(sentence=sentence, count=count):
                    self.assertIs(holds(again, (count,)), tell(count))
                    self.assertIs(is_so(told, (count,)), tell(count))

    def sums_of_an_even_number(self, one, other):
        return {one * y + other * z for y in range(60) for z in range(60) if (y + z) % 2 == 0}

    def has_difference(self, total):
        return any([(2 * y - total) % 5 == 2 for y in range(total + 1)])

    def test_of_some_of_all_and_all_of_some(self):
        # For each number up to n there is one that doubles it up to n: only for n of 0.
        inner = plainly(("some", both(just(0, 2, -1), ("least", (1, 0, -1), 0))))
        question = ("all", either(("not", ("least", (1, -1), 0)), inner))
        self.assertEqual([holds(question, (n,)) for n in range(5)], [True, False, False, False, False])
        self.assertEqual([witness(question, (n,)) for n in range(6)], [None, 1, 2, 2, 3, 3])
        # Some number is such that all above it up to n are odd ones.
        not_above, beyond = ("not", ("least", (0, -1, 1), 1)), ("not", ("least", (1, 0, -1), 0))
        inner = plainly(("all", either(not_above, either(beyond, ("rest", (0, 0, 1), 2, 1)))))
        question = ("some", both(("least", (1, -1), 1), inner))
        self.assertEqual([holds(question, (n,)) for n in range(6)], [False, True, False, True, False, True])
        self.assertEqual([witness(question, (n,)) for n in range(6)], [None, 0, None, 2, None, 4])
        for n in (MILLION, MILLION - 1):
            self.assertEqual(witness(question, (n,)), n - 1 if n % 2 else None)
            self.assertIs(is_so(plainly(question), (n,)), n % 2 == 1)

    def test_bounds_that_are_great(self):
        great = 10 ** 40
        told = plainly(("some", ("least", (1, -2), great)))
        for count in (great - 1, great, great + 1):
            self.assertIs(is_so(told, (count,)), count >= great)
        told = plainly(("all", either(("least", (2, 1), great), ("rest", (1, 1), 2, 0))))
        self.asked(("some", ("least", (-1, 3), great)), (1,), (great + 3) // 3)
        for count in (0, MILLION, great // 2 - 1, great // 2, great):
            self.assertIs(is_so(told, (count,)), count >= great // 2)

    def test_bounds_of_some_thousands(self):
        for bound in (1000, 1023, 1024, 1025, 2048, 3000):
            told = plainly(("some", both(("least", (1, -1), bound), ("rest", (1, 1), 4, 1))))
            self.is_well_made(told, 1)
            for n in (0, 1, *range(bound - 9, bound + 40), 2 * bound, MILLION):
                are = any([(n + y) % 4 == 1 for y in range(min(5, n - bound + 1))])
                self.assertIs(is_so(told, (n,)), are)
            told = plainly(("all", either(("least", (3, -2), bound), ("rest", (0, 1), 3, 0))))
            self.assertIs(is_so(told, (bound,)), False)

    def test_bounds_far_out_along_a_line_that_rises(self):
        for bound in (1000, 3000, 9000, 12000):
            told = plainly(("some", both(just(2, -3, worth=-1), ("least", (1, 1), bound))))
            self.is_well_made(told, 1)
            for n in (0, 1, *range(bound // 2, bound), 2 * bound, MILLION):
                self.assertIs(is_so(told, (n,)), n % 3 == 1 and n + (2 * n + 1) // 3 >= bound)

    def test_multiples_of_two_numbers(self):
        for one, other in ((2, 3), (1, 2), (3, 2), (7, 12), (307, 311)):
            told = plainly(("some", either(just(1, -one), just(1, -other))))
            self.is_well_made(told, 1)
            for n in (*range(50), one * other - 1, one * other, one * other + 1, MILLION // one * one):
                self.assertIs(is_so(told, (n,)), n % one == 0 or n % other == 0)
            told = plainly(("all", both(("not", just(1, -one, worth=4)), ("not", just(1, -other, worth=-1)))))
            for n in (*range(50), one * other - 1, one * other + 3, one * other + 4, MILLION // one * one + 4):
                self.assertIs(is_so(told, (n,)), not ((n >= 4 and (n - 4) % one == 0) or (n + 1) % other == 0))

    def test_two_sums_that_are_just_some_worth(self):
        chance = random.Random(19)
        for _ in range(400):
            sums = [just(chance.randint(-3, 3), chance.randint(-3, 3), worth=chance.randint(-4, 4)) for _ in range(2)]
            sentence = either(both(sums[0], a_leaf(chance, 2)), both(sums[1], a_leaf(chance, 2)))
            question = chance.choice((("some", sentence), ("all", ("not", sentence))))
            told = plainly(question)
            self.is_well_made(told, 1)
            for n in range(28):
                with self.subTest(question=question, n=n):
                    self.assertIs(is_so(told, (n,)), (first_by_walking(question, (n,)) is None) is (question[0] == "all"))

    def test_many_rests_and_leasts(self):
        for sentence in (
            both(
                both(("least", (-2, 3, 2), 3), ("least", (2, 1, -3), -2)),
                both(("rest", (1, 2, 1), 4, 0), ("rest", (0, -3, -1), 5, 1)),
            ),
            both(
                both(("rest", (1, 2, 1), 3, 0), ("rest", (2, -3, -1), 5, 1)),
                both(("rest", (1, 1, 3), 4, 2), ("least", (1, 1, -3), 1)),
            ),
            either(
                both(("least", (3, -1, 2), 3), ("least", (3, 1, -3), -2)),
                both(("least", (-1, 2, 3), 4), ("least", (2, -3, -2), 1)),
            ),
        ):
            for word in ("some", "all"):
                question = (word, sentence)
                told = plainly(question)
                for counts in itertools.product((0, 1, 2, 3, 5, 8, 13, 21), repeat=2):
                    self.assertIs(is_so(told, counts), holds(question, counts))
                for outer in ("some", "all"):
                    again = (outer, told)
                    twice = plainly(again)
                    for count in (0, 1, 2, 3, 5, 8, 13, 21, 34, 55, 89, 144, MILLION - 1, MILLION):
                        self.assertIs(is_so(twice, (count,)), holds(again, (count,)))


if __name__ == "__main__":
    unittest.main()
