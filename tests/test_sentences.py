"""Sentences about counts: whether they are so, written and read (points 2 and 14)."""

import itertools
import re
import unittest

from crowdsay.errors import NoText
from crowdsay.questions import plainly
from crowdsay.sentences import is_so, many_of, read_sentence, show_sentence

LEAST = ("least", (2, -1), 3)
REST = ("rest", (1, 1), 3, 0)
SHOWN = (
    ("least 2,-1 3", LEAST),
    ("rest 1,1 3 0", REST),
    ("(least 2,-1 3 and rest 1,1 3 0)", ("and", LEAST, REST)),
    ("(rest 1,1 3 0 or least 2,-1 3)", ("or", REST, LEAST)),
    ("not least 2,-1 3", ("not", LEAST)),
    ("not not rest 1,1 3 0", ("not", ("not", REST))),
    ("not (least 2,-1 3 or rest 1,1 3 0)", ("not", ("or", LEAST, REST))),
    ("(not least 2,-1 3 and not rest 1,1 3 0)", ("and", ("not", LEAST), ("not", REST))),
    ("((rest 1,1 3 0 or least 2,-1 3) and least 2,-1 3)", ("and", ("or", REST, LEAST), LEAST)),
    ("(least 2,-1 3 or (rest 1,1 3 0 and rest 1,1 3 0))", ("or", LEAST, ("and", REST, REST))),
    (
        "((least 2,-1 3 and rest 1,1 3 0) or (rest 1,1 3 0 or least 2,-1 3))",
        ("or", ("and", LEAST, REST), ("or", REST, LEAST)),
    ),
    ("least 0 0", ("least", (0,), 0)),
    ("least -3,0,3 -4", ("least", (-3, 0, 3), -4)),
    ("least 3 4", ("least", (3,), 4)),
    ("rest -1 2 1", ("rest", (-1,), 2, 1)),
    ("rest 0,0,0 5 4", ("rest", (0, 0, 0), 5, 4)),
)
LEAF = re.compile(
    r"least (?P<least>(?:-[123]|[0123])(?:,(?:-[123]|[0123])){0,2}) (?:-[1234]|[01234])"
    r"|rest (?P<rest>(?:-[123]|[0123])(?:,(?:-[123]|[0123])){0,2}) (?:2 [01]|3 [012]|4 [0123]|5 [01234])"
)
WRONG = (
    "", " ", "\n", "()", "(", ")", "not", "not ", "and", "least", "rest", "least ", "least 1", "least  1", "rest 1",
    "rest 1 2", "least 1 ", "least 1,1", "rest 1,1 3", "least 2,-1 3 ", " least 2,-1 3", "least 2,-1 3\n",
    "\nleast 2,-1 3", "least\n2,-1 3", "least 2,-1\n3", "least  2,-1 3", "least 2,-1  3", "least 2, -1 3",
    "least 2,-1, 3", "least ,2,-1 3", "least 2,,-1 3", "least 2,-1 3 0", "rest 1,1 3 0 0", "rest 1,1 3 0,0",
    "Least 2,-1 3", "LEAST 2,-1 3", "lest 2,-1 3", "leasts 2,-1 3", "most 2,-1 3", "true", "yes", "0", "1",
    "least 4 0", "least -4 0", "least 2,4 0", "least 10 0", "least 1 5", "least 1 -5", "least 1 10", "rest 1 1 0",
    "rest 1 6 0", "rest 1 0 0", "rest 1 -2 0", "rest 1 2 2", "rest 1 3 3", "rest 1 4 4", "rest 1 5 5", "rest 1 3 -1",
    "rest 4 3 0", "rest 1,-4 3 0", "least 1,1,1,1 0", "rest 1,1,1,1 2 0", "least +1 0", "least 1 +1", "least 01 0",
    "least 1 01", "least -0 0", "least 1 -0", "rest 1 02 0", "rest 1 2 00", "rest 1 2 -0", "least 1.0 0", "least 1_0 0",
    "least 0x1 0", "least a 0", "least (1) 0", "least 2,-1 (3)", "least - 0", "least 1 -", "least --1 0",
    "(least 2,-1 3)", "((least 2,-1 3 and rest 1,1 3 0))", "least 2,-1 3 and rest 1,1 3 0",
    "(least 2,-1 3 and rest 1,1 3 0", "least 2,-1 3 and rest 1,1 3 0)", "(least 2,-1 3 and rest 1,1 3 0))",
    "( least 2,-1 3 and rest 1,1 3 0)", "(least 2,-1 3 and rest 1,1 3 0 )", "(least 2,-1 3  and rest 1,1 3 0)",
    "(least 2,-1 3 and  rest 1,1 3 0)", "(least 2,-1 3 and)", "(and rest 1,1 3 0)", "(least 2,-1 3 rest 1,1 3 0)",
    "(least 2,-1 3 xor rest 1,1 3 0)", "(least 2,-1 3 not rest 1,1 3 0)", "(least 2,-1 3 AND rest 1,1 3 0)",
    "(least 2,-1 3 and or rest 1,1 3 0)", "(least 2,-1 3 and rest 1,1 3 0 and rest 1,1 3 0)",
    "(least 2,-1 3 & rest 1,1 3 0)", "(least 2,-1 3\nand rest 1,1 3 0)", "[least 2,-1 3 and rest 1,1 3 0]",
    "notleast 2,-1 3", "not  least 2,-1 3", "not(least 2,-1 3 and rest 1,1 3 0)", "Not least 2,-1 3", "not not",
    "not (least 2,-1 3)", "least 2,-1 3 not", "not least 2,-1 3 not",
    "(least 2,-1 3 and rest 1 3 0)", "(least 2 3 or rest 1,1 3 0)", "(least 1,1,1 0 or least 1,1 0)",
    "((least 1 0 and least 1 0) or (least 1 0 and least 1,1 0))", "(not least 1 0 or not least 1,0 0)",
    "some least 2,-1 3", "(\"least\", (2, -1), 3)",
)


def plain_many(text, around=0):
    """How many weights the sentence has that this text is written for, or None: another way to read it."""
    if around > 2:
        return None
    if text.startswith("not "):
        return plain_many(text[4:], around + 1)
    if text.startswith("(") and text.endswith(")"):
        for match in re.finditer(" (?:and|or) ", text):
            many = plain_many(text[1:match.start()], around + 1)
            if many is not None and many == plain_many(text[match.end():-1], around + 1):
                return many
        return None
    match = LEAF.fullmatch(text)
    return None if match is None else len((match["least"] or match["rest"]).split(","))


def around(sentence):
    if sentence[0] in ("least", "rest"):
        return 0
    return 1 + max([around(part) for part in sentence[1:]])


class IsSoTest(unittest.TestCase):
    def yes(self, sentence, counts):
        self.assertIs(is_so(sentence, counts), True)

    def no(self, sentence, counts):
        self.assertIs(is_so(sentence, counts), False)

    def test_all_is_defined_in_this_file(self):
        for thing in (is_so, many_of, show_sentence, read_sentence):
            self.assertEqual(thing.__module__, "crowdsay.sentences")

    def test_of_a_least(self):
        self.yes(("least", (1,), 3), (3,))
        self.yes(("least", (1,), 3), (4,))
        self.no(("least", (1,), 3), (2,))
        self.yes(LEAST, (2, 1))
        self.no(LEAST, (2, 2))
        self.yes(("least", (1, 1, 1), 4), (1, 2, 1))
        self.no(("least", (1, 1, 1), 4), (1, 1, 1))

    def test_of_weights_and_bounds_below_nought(self):
        self.yes(("least", (-1,), -2), (2,))
        self.no(("least", (-1,), -2), (3,))
        self.yes(("least", (-3, 2), -4), (2, 1))
        self.no(("least", (-3, 2), -4), (3, 2))
        self.yes(("least", (-1, -1, -1), 0), (0, 0, 0))
        self.no(("least", (-1, -1, -1), 0), (0, 0, 1))

    def test_of_weights_of_nought(self):
        for counts in ((0,), (5,), (10 ** 6,)):
            self.yes(("least", (0,), 0), counts)
            self.yes(("least", (0,), -1), counts)
            self.no(("least", (0,), 1), counts)
            self.yes(("rest", (0,), 2, 0), counts)
            self.no(("rest", (0,), 2, 1), counts)

    def test_of_counts_of_nought(self):
        self.yes(("least", (3, -2), 0), (0, 0))
        self.no(("least", (3, -2), 1), (0, 0))
        self.yes(("rest", (3, -2), 5, 0), (0, 0))
        self.no(("rest", (3, -2), 5, 4), (0, 0))

    def test_of_a_rest(self):
        for count in range(12):
            for rest in range(4):
                self.assertIs(is_so(("rest", (1,), 4, rest), (count,)), count % 4 == rest)
                self.assertIs(is_so(("rest", (3,), 4, rest), (count,)), 3 * count % 4 == rest)

    def test_of_a_rest_below_nought(self):
        self.yes(("rest", (-1,), 3, 2), (1,))
        self.yes(("rest", (-1,), 3, 1), (2,))
        self.no(("rest", (-1,), 3, 1), (1,))
        self.yes(("rest", (1, -2), 5, 4), (1, 1))
        self.yes(("rest", (-3, -3), 4, 2), (1, 1))

    def test_of_counts_up_to_a_million(self):
        million = 10 ** 6
        self.yes(("least", (1, -1), 0), (million, million))
        self.no(("least", (1, -1), 1), (million, million))
        self.yes(("least", (1, -1), 1), (million, million - 1))
        self.yes(("rest", (1, 1, 1), 5, 0), (million, million, million))
        self.yes(("rest", (1, 1, 1), 3, 0), (million, million, million))
        self.yes(("rest", (1,), 3, 1), (million,))
        self.no(("least", (-3, -3, -3), -4), (million, million, million))

    def test_of_and_or_not(self):
        so = ("least", (1,), 0)
        for one, other in itertools.product((so, ("not", so)), repeat=2):
            left, right = one is so, other is so
            self.assertIs(is_so(("and", one, other), (1,)), left and right)
            self.assertIs(is_so(("or", one, other), (1,)), left or right)
            self.assertIs(is_so(("not", ("and", one, other)), (1,)), not (left and right))
            self.assertIs(is_so(("not", ("or", one, other)), (1,)), not (left or right))
            self.assertIs(is_so(("and", ("not", one), other), (1,)), not left and right)
            self.assertIs(is_so(("or", one, ("not", other)), (1,)), left or not right)
        self.yes(("not", ("not", so)), (1,))

    def test_within_up_to_two_others(self):
        for counts in itertools.product(range(5), repeat=2):
            least = 2 * counts[0] - counts[1] >= 3
            rest = sum(counts) % 3 == 0
            sentence = ("or", ("and", LEAST, REST), ("not", ("or", LEAST, REST)))
            self.assertIs(is_so(sentence[1], counts), least and rest)
            self.assertIs(is_so(sentence, counts), least == rest)
            self.assertIs(is_so(("and", ("or", LEAST, REST), ("or", REST, LEAST)), counts), least or rest)

    def test_of_great_numbers(self):
        great = 10 ** 50
        self.yes(("least", (great, -1), great - 1), (1, 1))
        self.no(("least", (great, -1), great), (1, 1))
        self.yes(("rest", (great, 1), great - 1, 4), (1, 3))
        self.no(("rest", (great, 1), great - 1, 3), (1, 3))
        self.yes(("rest", (7, -9), 1, 0), (5, 6))
        self.yes(("least", (1, 1), -great), (0, 0))

    def test_within_three_hundred_others(self):
        sentence = LEAST
        for _ in range(300):
            sentence = ("not", sentence)
        self.yes(sentence, (2, 1))
        self.no(sentence, (1, 1))
        self.no(sentence[1], (2, 1))
        joined = LEAST
        for number in range(150):
            joined = ("and", ("or", joined, ("least", (0, 0), 1)), ("least", (0, 1), -number))
        self.yes(joined, (2, 1))
        self.no(joined, (2, 2))

    def test_by_name(self):
        self.assertIs(is_so(counts=(2, 1), sentence=LEAST), True)
        self.assertEqual(many_of(sentence=LEAST), 2)
        self.assertEqual(show_sentence(sentence=LEAST), "least 2,-1 3")
        self.assertEqual(read_sentence(text="least 2,-1 3"), LEAST)


class ManyOfTest(unittest.TestCase):
    def test_how_many_weights(self):
        for many in (1, 2, 3):
            least = ("least", (0,) * many, 0)
            rest = ("rest", (1,) * many, 2, 0)
            for sentence in (least, rest, ("not", least), ("and", least, rest), ("or", ("not", rest), least),
                             ("not", ("not", rest)), ("and", ("or", rest, least), ("or", least, least))):
                self.assertEqual(many_of(sentence), many)

    def test_within_many_others(self):
        sentence = REST
        for number in range(300):
            sentence = ("not", sentence) if number % 2 else ("or", sentence, REST)
        self.assertEqual(many_of(sentence), 2)


class ShowTest(unittest.TestCase):
    def test_as_it_is_written(self):
        for text, sentence in SHOWN:
            with self.subTest(text):
                self.assertEqual(show_sentence(sentence), text)

    def test_of_great_numbers(self):
        great = "1" + "0" * 60
        least = ("least", (10 ** 60, -(10 ** 60)), -(10 ** 60))
        self.assertEqual(show_sentence(least), f"least {great},-{great} -{great}")
        self.assertEqual(show_sentence(("rest", (17, 0), 10 ** 60, 10 ** 59)), f"rest 17,0 {great} {great[:-1]}")
        self.assertEqual(show_sentence(("rest", (5,), 1, 0)), "rest 5 1 0")

    def test_within_many_others(self):
        sentence = LEAST
        text = "least 2,-1 3"
        for number in range(300):
            if number % 3 == 0:
                sentence, text = ("not", sentence), "not " + text
            elif number % 3 == 1:
                sentence, text = ("and", sentence, REST), f"({text} and rest 1,1 3 0)"
            else:
                sentence, text = ("or", REST, sentence), f"(rest 1,1 3 0 or {text})"
        self.assertEqual(show_sentence(sentence), text)

    def test_of_told_ones(self):
        told = plainly(("some", ("and", ("least", (1, -2, -3), 0), ("least", (-1, 2, 3), 0))))
        text = show_sentence(told)
        self.assertIs(type(text), str)
        for counts in itertools.product(range(9), repeat=2):
            self.assertIs(is_so(told, counts), counts[0] >= 2 * counts[1] and (counts[0] - 2 * counts[1]) % 3 == 0)


class ReadTest(unittest.TestCase):
    def refused(self, text):
        with self.subTest(text=text[:100]):
            with self.assertRaises(NoText) as caught:
                read_sentence(text)
            self.assertEqual(caught.exception.line, 0)

    def test_what_is_written(self):
        for text, sentence in SHOWN:
            with self.subTest(text):
                self.assertEqual(read_sentence(text), sentence)

    def test_all_leasts_and_rests_there_and_back(self):
        for many in (1, 2):
            for weights in itertools.product(range(-3, 4), repeat=many):
                leaves = [("least", weights, bound) for bound in range(-4, 5)]
                leaves += [("rest", weights, parts, rest) for parts in range(2, 6) for rest in range(parts)]
                for sentence in leaves:
                    told = read_sentence(show_sentence(sentence))
                    self.assertEqual(told, sentence)
                    self.assertEqual(repr(told), repr(sentence))

    def test_sentences_within_others_there_and_back(self):
        leaves = [("least", (1, -3, 0), -4), ("rest", (-2, 3, 1), 5, 4)]
        once = [("not", one) for one in leaves]
        once += [(word, one, other) for word in ("and", "or") for one in leaves for other in leaves]
        every = leaves + once
        twice = [("not", one) for one in once]
        twice += [(word, one, other) for word in ("and", "or") for one in every for other in every]
        for sentence in every + twice:
            self.assertEqual(read_sentence(show_sentence(sentence)), sentence)
        for sentence in twice:
            if around(sentence) == 2:
                self.refused(show_sentence(("not", sentence)))
                self.refused(show_sentence(("and", sentence, leaves[0])))
                self.refused(show_sentence(("or", leaves[0], sentence)))

    def test_what_is_no_sentence(self):
        for text in WRONG:
            self.assertIsNone(plain_many(text))
            self.refused(text)

    def test_told_ones_beyond_the_bounds(self):
        for sentence in (("least", (4,), 0), ("least", (1,), 5), ("least", (1,), -5), ("rest", (1,), 6, 0),
                         ("rest", (1,), 1, 0), ("least", (10 ** 60,), 0), ("rest", (1, 1), 15, 7),
                         ("least", (1, 1, 1, 1), 0), ("not", ("not", ("not", LEAST)))):
            self.refused(show_sentence(sentence))

    def test_within_very_many_others(self):
        self.refused("not " * 900 + "least 1 0")
        self.refused("not " * 990)
        self.refused("(" * 4000)
        self.refused("(" * 1000 + "least 1 0")
        self.refused("(least 1 0 and " * 260 + "x")
        self.refused("(least 1 0 and " * 200 + "least 1 0" + ")" * 200)
        self.refused(")" * 4000)
        self.refused(" " * 4000)
        self.refused("\n" * 4000)
        self.refused("least 1" + ",1" * 1990 + " 0")
        self.refused("least " + "9" * 3990 + " 0")
        self.refused("least 1 " + "-" * 3990)

    def test_each_sign_left_out_put_in_or_changed(self):
        signs = " ,-+0123456789()andortlesx\n~.'\""
        for text, _ in SHOWN:
            for place in range(len(text) + 1):
                changed = [text[:place] + text[place + 1:], text[:place]]
                changed += [text[:place] + sign + text[place:] for sign in signs]
                changed += [text[:place] + sign + text[place + 1:] for sign in signs]
                for other in changed:
                    many = plain_many(other)
                    if many is None:
                        self.refused(other)
                    else:
                        told = read_sentence(other)
                        self.assertEqual(show_sentence(told), other)
                        self.assertEqual(many_of(told), many)

    def test_the_kinds_of_values(self):
        told = read_sentence("not (least 2,-1 3 or rest 1,1 3 0)")
        self.assertEqual(repr(told), "('not', ('or', ('least', (2, -1), 3), ('rest', (1, 1), 3, 0)))")


if __name__ == "__main__":
    unittest.main()
