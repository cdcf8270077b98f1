"""Customs' texts, written and read back (points 4, 5 and 20)."""

import itertools
import os
import random
import sys
import unittest

sys.path.insert(0, os.path.dirname(os.path.abspath(__file__)))

from plain import sentences

from crowdsay.customs import Custom
from crowdsay.errors import NoCustom, NoText, TooMany
from crowdsay.made import made_for
from crowdsay.texts import read_custom

ODD = Custom(
    ("odd", "even", "n"),
    (("odd", "odd", "even", "n"), ("odd", "even", "odd", "n")),
    (("in", "odd"), ("out", "even")),
    yes=("odd", "n"),
)
LINES = [
    "kinds odd even n",
    "odd odd to even n",
    "odd even to odd n",
    "gate in is odd",
    "gate out is even",
    "yes odd n",
]


def text_of(*lines):
    return "\n".join(lines)


def with_line(number, line):
    return text_of(*LINES[:number], line, *LINES[number + 1:])


class TextsTest(unittest.TestCase):
    def assert_no_text(self, line, text, **most):
        with self.assertRaises(NoText) as raised:
            read_custom(text, **most)
        self.assertEqual(raised.exception.line, line, text)
        self.assertIs(type(raised.exception), NoText)

    def assert_no_custom(self, fault, text, **most):
        with self.assertRaises(NoCustom) as raised:
            read_custom(text, **most)
        self.assertEqual(raised.exception.fault, fault, text)

    def test_is_defined_in_this_file(self):
        self.assertEqual(read_custom.__module__, "crowdsay.texts")

    def test_as_it_is_written(self):
        self.assertEqual(str(ODD), text_of(*LINES))
        self.assertEqual(read_custom(text_of(*LINES)), ODD)
        self.assertEqual(read_custom(text=text_of(*LINES), most=3), ODD)

    def test_without_rows_and_without_yes(self):
        custom = Custom(("x", "y"), (), (("in", "y"),))
        self.assertEqual(str(custom), "kinds x y\ngate in is y\nyes")
        self.assertEqual(read_custom("kinds x y\ngate in is y\nyes"), custom)

    def test_words_of_the_texts_own(self):
        custom = Custom(
            ("kinds", "yes", "gate", "is", "to"),
            (("kinds", "to", "gate", "is"), ("gate", "is", "to", "to"), ("to", "to", "gate", "gate")),
            (("gate", "is"), ("is", "gate"), ("yes", "to")),
            yes=("kinds", "yes", "to"),
        )
        self.assertEqual(read_custom(str(custom)), custom)

    def test_read_back_they_are_equal(self):
        chance = random.Random(20)
        for _ in range(300):
            many = chance.randint(2, 8)
            kinds = tuple(chance.sample(["a", "b", "to", "is", "gate", "yes", "kinds", "abcdefgh"], many))
            rows = []
            for two in itertools.combinations_with_replacement(range(many), 2):
                ends = tuple(sorted([chance.randrange(many), chance.randrange(many)]))
                if ends != two and chance.random() < 0.5:
                    rows.append(tuple(kinds[place] for place in two + ends))
            gates = tuple((word, chance.choice(kinds)) for word in ("to", "is", "a")[:chance.randint(1, 3)])
            custom = Custom(kinds, tuple(rows), gates, yes=tuple(kind for kind in kinds if chance.random() < 0.5))
            self.assertEqual(read_custom(str(custom)), custom)

    def test_customs_made_for_sentences(self):
        many = 0
        for sentence in sentences(20, 100):
            try:
                custom = made_for(sentence)
            except TooMany:
                continue
            self.assertEqual(read_custom(str(custom), most=60), custom)
            self.assertEqual(read_custom(str(custom), most=len(custom)), custom)
            many += len(custom) > 20
            if len(custom) > 2:
                self.assert_no_text(0, str(custom), most=len(custom) - 1)
        self.assertGreater(many, 5)

    def test_most_left_out_is_eight(self):
        kinds = tuple("abcdefghi")
        eight = Custom(kinds[:8], (), (("in", "a"),), yes=kinds[:8])
        nine = Custom(kinds, (), (("in", "a"),), yes=kinds, most=9)
        self.assertEqual(read_custom(str(eight)), eight)
        self.assert_no_text(0, str(nine))
        self.assertEqual(read_custom(str(nine), most=9), nine)
        self.assertEqual(read_custom(str(nine), most=60), nine)

    def test_fewer_than_three_lines(self):
        for text in (
            "", "\n", " ", "kinds x y", "yes", "kinds x y\nyes", "x\ny", "gate in is x\nyes",
            "kinds x y\ngate in is x",
        ):
            self.assert_no_text(0, text)

    def test_the_first_line(self):
        for line in (
            "", "kinds", "kinds odd", "kind odd even n", "odd even n", "Kinds odd even n", "kinds odd even  n",
            " kinds odd even n", "kinds odd even n ", "kinds  odd even n", "kinds odd Even n", "kinds odd even n1",
            "kinds odd,even,n", "kinds odd even abcdefghi", "kindsodd even n", "yes odd even n", "odd odd to even n",
            "gate in is odd", "kinds odd even n.", "kinds a b c d e f g h i",
        ):
            self.assert_no_text(0, with_line(0, line))

    def test_the_last_line(self):
        for line in (
            "", "yes ", " yes", "yes  odd", "yes odd n ", "no odd", "yess odd", "odd n", "yes Odd", "yes odd,n",
            "yes abcdefghi", "kinds odd n", "gate out is even", "odd even to odd n", "YES", "yes a b c d e f g h i",
        ):
            self.assert_no_text(5, with_line(5, line))

    def test_a_line_between(self):
        for line in (
            "", " ", "odd odd even n", "odd odd to even", "odd odd to even n n", "odd to even n",
            "odd  odd to even n", " odd odd to even n", "odd odd to even n ", "odd odd To even n",
            "odd odd be even n", "odd odd to even 7", "abcdefghi odd to even n", "kinds odd even n", "yes odd n",
            "yes", "gate in is", "gate in is odd n", "gate is odd", "gate  in is odd", "gate in be odd",
            "gates in is odd", "gate in is Odd", "gate in is abcdefghi", "gate inn2 is odd", "gate in is odd ",
            " gate in is odd", "odd odd to even,n", "gate abcdefghi is odd", "gate  is odd",
        ):
            for number in (1, 2, 3, 4):
                self.assert_no_text(number, with_line(number, line))

    def test_the_first_of_several(self):
        for first, second in itertools.combinations(range(6), 2):
            lines = ["!" if number in (first, second) else line for number, line in enumerate(LINES)]
            self.assert_no_text(first, text_of(*lines))

    def test_line_ends_too_many(self):
        text = text_of(*LINES)
        self.assert_no_text(5, text + "\n")
        self.assert_no_text(0, "\n" + text)
        self.assert_no_text(2, text_of(*LINES[:2], "", *LINES[2:]))

    def test_line_ends_too_few(self):
        for number in range(5):
            lines = [*LINES[:number], LINES[number] + " " + LINES[number + 1], *LINES[number + 2:]]
            # Behind "kinds" and behind "yes" there may be any words.
            self.assert_no_text(0 if number == 0 else min(number, 4), text_of(*lines), most=3)

    def test_lines_in_another_order(self):
        kinds, first, second, gate, other_gate, yes = LINES
        for between in (
            [gate, first], [first, gate, second], [gate, other_gate, first, second], [gate, first, other_gate],
        ):
            self.assert_no_text(0, text_of(kinds, *between, yes))
        self.assert_no_text(0, text_of(yes, first, gate, kinds))
        self.assert_no_text(1, text_of(kinds, yes, first, gate))
        self.assert_no_text(0, text_of(first, kinds, gate, yes))

    def test_no_gates_line(self):
        self.assert_no_text(0, text_of(LINES[0], LINES[1], LINES[5]))
        self.assert_no_text(0, text_of(LINES[0], LINES[1], LINES[2], LINES[5]))

    def test_too_many_gates(self):
        gates = ["gate x is odd", "gate y is odd", "gate z is odd", "gate w is odd"]
        self.assertEqual(len(read_custom(text_of(LINES[0], *gates[:3], "yes")).gates), 3)
        self.assert_no_text(0, text_of(LINES[0], *gates, "yes"))
        self.assert_no_text(0, text_of(LINES[0], gates[0], *gates, "yes"))

    def test_too_many_rows(self):
        rows = ["x x to x y", "x y to y y", "y y to x x"]
        custom = read_custom(text_of("kinds x y", *rows, "gate in is x", "yes"), most=2)
        self.assertEqual(len(custom.rows), 3)
        for row in rows:
            self.assert_no_text(0, text_of("kinds x y", *rows, row, "gate in is x", "yes"), most=2)
            self.assert_no_custom("order", text_of("kinds x y", *rows, row, "gate in is x", "yes"), most=3)
        self.assert_no_custom("order", text_of("kinds x y", *["x x to y y"] * 36, "gate in is x", "yes"))
        self.assert_no_text(0, text_of("kinds x y", *["x x to y y"] * 37, "gate in is x", "yes"))

    def test_too_many_yes(self):
        yes = "yes" + " x" * 3
        self.assert_no_custom("order", text_of("kinds x y", "gate in is x", yes), most=3)
        self.assert_no_text(2, text_of("kinds x y", "gate in is x", yes), most=2)

    def test_names(self):
        for text in (
            with_line(0, "kinds odd even odd"), with_line(0, "kinds odd even"), with_line(1, "odd odd to even else"),
            with_line(1, "to odd to even n"), with_line(3, "gate out is odd"), with_line(3, "gate in is else"),
            with_line(5, "yes else"), with_line(5, "yes odd yes"), with_line(4, "gate in is even"),
        ):
            self.assert_no_custom("names", text)

    def test_order(self):
        for text in (
            with_line(1, "even odd to even n"), with_line(1, "odd odd to n even"), with_line(1, "odd odd to odd odd"),
            with_line(1, "odd even to odd n"), with_line(1, "even n to even even"), with_line(5, "yes n odd"),
            with_line(5, "yes odd odd"), with_line(2, "odd odd to even n"),
        ):
            self.assert_no_custom("order", text)

    def test_names_ahead_of_order(self):
        self.assert_no_custom("names", text_of("kinds x y", "y x to y y", "gate in is z", "yes"))

    def test_text_ahead_of_custom(self):
        self.assert_no_text(0, text_of("kinds x x", "gate in is z", "x y to y y", "yes q"))
        self.assert_no_text(3, text_of("kinds x x", "y x to y y", "gate in is z", "yes Q"))

    def test_wrong_by_one_sign(self):
        text = text_of(*LINES)
        chance = random.Random(21)
        for _ in range(1500):
            place = chance.randrange(len(text))
            sign = chance.choice([" ", "\n", "", "e", "Z", "!", "0", "~", "  ", "gate", "yes "])
            other = text[:place] + sign + text[place + chance.randint(0, 1):]
            try:
                custom = read_custom(other)
            except (NoText, NoCustom):
                continue
            self.assertEqual(str(custom), other)


if __name__ == "__main__":
    unittest.main()
