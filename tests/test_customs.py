"""What a custom is asked: its values, ==, len, str, repr, places and who says yes (points 2, 4 and 5)."""

import unittest

from crowdsay import customs
from crowdsay.customs import Custom, place_of, says_yes, why_no_custom

KINDS = ("z", "m", "a")
ROWS = (("z", "m", "m", "m"), ("m", "a", "z", "a"))
GATES = (("inn", "z"), ("out", "a"))
YES = ("m", "a")
TEXT = "kinds z m a\nz m to m m\nm a to z a\ngate inn is z\ngate out is a\nyes m a"
SHOWN = (
    "Custom(('z', 'm', 'a'), (('z', 'm', 'm', 'm'), ('m', 'a', 'z', 'a')), "
    "(('inn', 'z'), ('out', 'a')), yes=('m', 'a'))"
)


def made(kinds=KINDS, rows=ROWS, gates=GATES, yes=YES):
    return Custom(kinds, rows, gates, yes=yes)


class InterfaceTest(unittest.TestCase):
    def test_all_is_defined_in_this_file(self):
        for thing in (why_no_custom, Custom, place_of, says_yes):
            self.assertEqual(thing.__module__, "crowdsay.customs")
        self.assertEqual((customs.FEW_KINDS, customs.MOST_KINDS), (8, 60))

    def test_what_is_asked_stands_in_the_class_itself(self):
        for name in ("__init__", "__eq__", "__len__", "__str__", "__repr__"):
            self.assertIn(name, vars(Custom))

    def test_the_values_are_the_four(self):
        custom = made()
        self.assertEqual(custom.kinds, KINDS)
        self.assertEqual(custom.rows, ROWS)
        self.assertEqual(custom.gates, GATES)
        self.assertEqual(custom.yes, YES)
        self.assertEqual(Custom(KINDS, ROWS, GATES).yes, ())


class EqualityTest(unittest.TestCase):
    def test_equal_where_all_four_are(self):
        self.assertTrue(made() == made())
        self.assertFalse(made() != made())
        custom = made()
        self.assertTrue(custom == custom)

    def test_unequal_by_each_of_the_four_alone(self):
        others = (
            made(kinds=("z", "m", "a", "b")),
            made(rows=ROWS[:1]),
            made(rows=()),
            made(rows=(ROWS[0], ("m", "a", "z", "m"))),
            made(gates=GATES[:1]),
            made(gates=GATES[::-1]),
            made(gates=(("inn", "z"), ("up", "a"))),
            made(gates=(("inn", "z"), ("out", "m"))),
            made(yes=()),
            made(yes=("a",)),
            made(yes=("z", "a")),
        )
        for other in others:
            with self.subTest(repr(other)):
                self.assertFalse(made() == other)
                self.assertFalse(other == made())
                self.assertTrue(made() != other)

    def test_unequal_by_the_order_of_the_kinds_alone(self):
        one = Custom(("z", "m", "a"), (), GATES)
        other = Custom(("a", "m", "z"), (), GATES)
        self.assertFalse(one == other)

    def test_most_is_no_part_of_it(self):
        self.assertTrue(Custom(KINDS, ROWS, GATES, yes=YES, most=60) == made())
        self.assertTrue(Custom(KINDS, ROWS, GATES, yes=YES, most=3) == made())

    def test_no_custom_equals_anything_else(self):
        things = (
            None, True, False, 0, 3, "", TEXT, SHOWN, (), [], {}, KINDS, (KINDS, ROWS, GATES, YES),
            [KINDS, ROWS, GATES, YES], {"kinds": KINDS, "rows": ROWS, "gates": GATES, "yes": YES}, Custom,
        )
        for thing in things:
            with self.subTest(thing):
                self.assertFalse(made() == thing)
                self.assertFalse(thing == made())
                self.assertTrue(made() != thing)

    def test_among_others_in_a_list(self):
        others = [None, made(yes=()), TEXT, made(), (KINDS, ROWS, GATES, YES), made()]
        self.assertIn(made(), others)
        self.assertEqual(others.index(made()), 3)
        self.assertEqual(others.count(made()), 2)
        self.assertNotIn(made(rows=()), others)
        self.assertNotIn(made(gates=GATES[:1]), others)
        self.assertNotIn(made(kinds=(*KINDS, "b")), others)
        self.assertNotIn(made(), [TEXT, None, KINDS, 3, SHOWN])
        self.assertNotIn(made(), [])

    def test_lists_of_customs(self):
        self.assertEqual([made(), made(yes=())], [made(), made(yes=())])
        self.assertNotEqual([made(), made(yes=())], [made(yes=()), made()])


class ShownTest(unittest.TestCase):
    def test_the_length_is_how_many_kinds_there_are(self):
        self.assertEqual(len(made()), 3)
        self.assertEqual(len(Custom(("a", "b"), (), (("inn", "a"),))), 2)
        kinds = tuple("abcdefghijklmnop")
        self.assertEqual(len(Custom(kinds, (), (("inn", "a"),), most=16)), 16)

    def test_the_text_line_by_line(self):
        self.assertEqual(str(made()), TEXT)
        self.assertEqual(f"{made()}", TEXT)

    def test_the_text_without_rows_and_yes(self):
        self.assertEqual(str(Custom(("b", "a"), (), (("inn", "a"),))), "kinds b a\ngate inn is a\nyes")

    def test_the_text_with_three_gates_and_long_words(self):
        custom = Custom(
            ("abcdefgh", "b"), (("abcdefgh", "abcdefgh", "abcdefgh", "b"),),
            (("z", "b"), ("y", "b"), ("xxxxxxxx", "abcdefgh")), yes=("abcdefgh", "b"),
        )
        lines = [
            "kinds abcdefgh b", "abcdefgh abcdefgh to abcdefgh b",
            "gate z is b", "gate y is b", "gate xxxxxxxx is abcdefgh", "yes abcdefgh b",
        ]
        self.assertEqual(str(custom), "\n".join(lines))

    def test_shown(self):
        self.assertEqual(repr(made()), SHOWN)
        self.assertEqual(f"{[made()]}", f"[{SHOWN}]")

    def test_shown_without_rows_and_yes(self):
        custom = Custom(("b", "a"), (), (("inn", "a"),))
        self.assertEqual(repr(custom), "Custom(('b', 'a'), (), (('inn', 'a'),), yes=())")
        custom = Custom(("b", "a"), (("b", "b", "a", "a"),), (("inn", "a"),), yes=("a",))
        shown = "Custom(('b', 'a'), (('b', 'b', 'a', 'a'),), (('inn', 'a'),), yes=('a',))"
        self.assertEqual(repr(custom), shown)

    def test_what_is_shown_makes_an_equal_one(self):
        self.assertEqual(eval(repr(made()), {"Custom": Custom}), made())


class KindsTest(unittest.TestCase):
    def test_the_place_of_a_kind(self):
        self.assertEqual([place_of(made(), kind) for kind in KINDS], [0, 1, 2])
        self.assertEqual(place_of(kind="a", custom=made()), 2)

    def test_the_place_hangs_on_this_custom(self):
        self.assertEqual(place_of(Custom(("a", "z"), (), (("inn", "a"),)), "z"), 1)

    def test_says_yes(self):
        told = [says_yes(made(), kind) for kind in KINDS]
        self.assertEqual(told, [False, True, True])
        self.assertTrue(all(isinstance(worth, bool) for worth in told))
        self.assertIs(says_yes(kind="m", custom=made()), True)

    def test_nobody_says_yes_and_all_do(self):
        self.assertEqual([says_yes(made(yes=()), kind) for kind in KINDS], [False] * 3)
        self.assertEqual([says_yes(made(yes=KINDS), kind) for kind in KINDS], [True] * 3)

    def test_a_kind_that_is_part_of_another_word_says_no(self):
        custom = Custom(("a", "ab", "b"), (), (("inn", "a"),), yes=("ab",))
        self.assertEqual([says_yes(custom, kind) for kind in custom.kinds], [False, True, False])


if __name__ == "__main__":
    unittest.main()
