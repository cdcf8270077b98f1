"""What makes a custom and what doesn't: "shape" ahead of "names" ahead of "order" (points 2, 4 and 5)."""

import copy
import itertools
import unittest

from crowdsay.customs import FEW_KINDS, MOST_KINDS, Custom, why_no_custom
from crowdsay.errors import NoCustom

# The places run against the letters, so that rising by places and by letters differ.
KINDS = ("z", "m", "a")
ROWS = (("z", "m", "m", "m"), ("m", "a", "z", "a"))
GATES = (("inn", "z"),)
YES = ("m",)

# Things that are none of what a custom is made of, wherever they stand.
OTHER_THINGS = (
    None, True, False, 0, 1, -3, 10 ** 59, "", "z", "zm", "zmmm", "inn", [], {}, {"z": "m", "m": "a"},
    ["z", "m"], [["z", "m", "m", "m"]], [("inn", "z")], {"inn": "z"}, {("z", "m"): ("m", "m")},
    (None,), (True, False), (1, 2, 3), ([],), ({},), (((((),),),),), ("z", ("m",)), ("z", ["m"]),
    ((((("z", "m"),),),),), [{"z": [(None, {"m": ()})]}],
)
BAD_WORDS = (
    "", "abcdefghi", "A", "aB", "Ab", "a1", "1", "a b", " a", "a ", "a\n", "\n", "a_b", "a-b", "a.", "`", "{", "a{",
    "`a", "z{z", None, True, False, 0, 7, ("a",), ["a"], {"a": "a"}, (), [],
)


def words(many):
    """As many words as told, in the letters' order."""
    letters = "abcdefghijklmnopqrstuvwxyz"
    return tuple([one + other for one in letters for other in letters][:many])


def all_rows(kinds):
    """Of each two kinds a row that changes something, in order."""
    rows = []
    for one, other in itertools.combinations_with_replacement(range(len(kinds)), 2):
        to = (kinds[0], kinds[1]) if (one, other) != (0, 1) else (kinds[1], kinds[1])
        rows.append((kinds[one], kinds[other], *to))
    return tuple(rows)


class WhyTest(unittest.TestCase):
    def check(self, why, kinds=KINDS, rows=ROWS, gates=GATES, **named):
        """That both why_no_custom and Custom say so, and leave all as it was."""
        before = copy.deepcopy((kinds, rows, gates, named))
        told = why_no_custom(kinds, rows, gates, **named)
        self.assertEqual(told, why, (kinds, rows, gates, named))
        if why is None:
            self.assertIsNone(told)
            custom = Custom(kinds, rows, gates, **named)
            made_of = (custom.kinds, custom.rows, custom.gates, custom.yes)
            self.assertEqual(made_of, (kinds, rows, gates, named.get("yes", ())))
        else:
            with self.assertRaises(NoCustom) as caught:
                Custom(kinds, rows, gates, **named)
            self.assertEqual(caught.exception.fault, why)
        self.assertEqual((kinds, rows, gates, named), before)


class ShapeTest(WhyTest):
    def test_the_bounds_are_told(self):
        self.assertEqual((FEW_KINDS, MOST_KINDS), (8, 60))

    def test_ordinary_customs_are_made(self):
        self.check(None)
        self.check(None, yes=YES)
        self.check(None, yes=YES, most=3)

    def test_words_have_one_to_eight_letters(self):
        for word in ("a", "z", "m", "az", "abcdefg", "abcdefgh", "zzzzzzzz"):
            with self.subTest(word):
                self.check(None, (word, "other"), ((word, word, word, "other"),), ((word, word),), yes=(word,))
                self.check(None, ("other", word), (), (("other", "other"),), yes=("other", word))

    def test_other_signs_and_lengths_are_no_words_among_the_kinds(self):
        for word in BAD_WORDS:
            with self.subTest(word):
                self.check("shape", (word, "m", "a"), (), (("inn", "m"),))
                self.check("shape", ("z", "m", word))

    def test_other_signs_and_lengths_are_no_words_in_rows(self):
        for word in BAD_WORDS:
            for place in range(4):
                row = ["z", "m", "m", "m"]
                row[place] = word
                with self.subTest(word, place=place):
                    self.check("shape", rows=(tuple(row),))
                    self.check("shape", rows=(("z", "z", "z", "m"), tuple(row)))

    def test_other_signs_and_lengths_are_no_words_in_gates(self):
        for word in BAD_WORDS:
            with self.subTest(word):
                self.check("shape", gates=((word, "z"),))
                self.check("shape", gates=(("inn", word),))
                self.check("shape", gates=(("inn", "z"), ("out", "m"), (word, "z")))
                self.check("shape", gates=(("inn", "z"), ("out", word)))

    def test_other_signs_and_lengths_are_no_words_in_yes(self):
        for word in BAD_WORDS:
            with self.subTest(word):
                self.check("shape", yes=(word,))
                self.check("shape", yes=("z", word))

    def test_a_word_in_the_place_of_a_tuple_of_words_is_none(self):
        self.check("shape", kinds="zma", rows=(), gates=GATES)
        self.check("shape", rows=("zmmm",))
        self.check("shape", gates=("zm",), kinds=("z", "m"), rows=())
        self.check("shape", yes="z")
        self.check("shape", yes="")
        self.check("shape", rows="")

    def test_two_kinds_to_eight_where_most_is_left_out(self):
        for many in range(12):
            kinds = words(many)
            with self.subTest(many):
                why = None if 2 <= many <= 8 else "shape"
                self.check(why, kinds, (), (("inn", kinds[0] if kinds else "aa"),))

    def test_two_kinds_to_most_where_most_is_told(self):
        for most in (2, 3, 7, 8, 9, 30, 59, 60):
            for many in (0, 1, 2, most - 1, most, most + 1):
                kinds = words(many)
                with self.subTest(most=most, many=many):
                    why = None if 2 <= many <= most else "shape"
                    self.check(why, kinds, (), (("inn", kinds[0] if kinds else "aa"),), most=most)

    def test_no_rows_to_all_rows(self):
        for most in (2, 3, 8):
            kinds = words(most)
            rows = all_rows(kinds)
            self.assertEqual(len(rows), most * (most + 1) // 2)
            with self.subTest(most):
                self.check(None, kinds, (), (("inn", "aa"),), most=most)
                self.check(None, kinds, rows, (("inn", "aa"),), most=most)
                self.check(None, kinds, rows[1:], (("inn", "aa"),), most=most)
                self.check("shape", kinds, rows + rows[-1:], (("inn", "aa"),), most=most)

    def test_all_rows_of_eight_kinds_where_most_is_left_out(self):
        kinds = words(8)
        rows = all_rows(kinds)
        self.check(None, kinds, rows, (("inn", "aa"),))
        self.check("shape", kinds, rows + rows[-1:], (("inn", "aa"),))

    def test_all_rows_of_sixty_kinds(self):
        kinds = words(60)
        rows = all_rows(kinds)
        self.assertEqual(len(rows), 1830)
        self.check(None, kinds, rows, (("inn", "aa"),), yes=kinds, most=60)

    def test_how_many_rows_there_may_be_hangs_on_most_and_not_on_the_kinds(self):
        rows = (("z", "z", "z", "m"),)
        self.check("order", ("z", "m"), rows * 4, GATES)
        self.check("order", ("z", "m"), rows * 36, GATES)
        self.check("shape", ("z", "m"), rows * 37, GATES)
        self.check("order", ("z", "m"), rows * 3, GATES, most=2)
        self.check("shape", ("z", "m"), rows * 4, GATES, most=2)
        self.check("order", ("z", "m"), rows * 210, GATES, most=20)
        self.check("shape", ("z", "m"), rows * 211, GATES, most=20)

    def test_rows_have_four_kinds(self):
        for row in ((), ("z",), ("z", "m"), ("z", "m", "m"), ("z", "m", "m", "m", "m"), ("z",) * 8):
            with self.subTest(row):
                self.check("shape", rows=(row,))
                self.check("shape", rows=(ROWS[0], row))
                self.check("shape", rows=(row, ROWS[1]))

    def test_one_gate_to_three(self):
        gates = (("one", "z"), ("two", "m"), ("three", "z"), ("four", "a"))
        for many in range(5):
            with self.subTest(many):
                self.check(None if 1 <= many <= 3 else "shape", gates=gates[:many])
        self.check("shape", gates=gates, most=60)

    def test_gates_are_pairs(self):
        for gate in ((), ("inn",), ("inn", "z", "m"), ("inn", "z", "m", "m")):
            with self.subTest(gate):
                self.check("shape", gates=(gate,))
                self.check("shape", gates=(("out", "z"), gate))

    def test_yes_left_out_or_empty_or_of_all_kinds(self):
        self.check(None)
        self.check(None, yes=())
        self.check(None, yes=KINDS)
        self.check(None, yes=("z",))
        self.check(None, yes=("z", "a"))
        kinds = words(8)
        self.check(None, kinds, (), (("inn", "aa"),), yes=kinds)

    def test_yes_has_most_words_at_most(self):
        self.check("order", yes=("z",) * 8)
        self.check("shape", yes=("z",) * 9)
        self.check("order", yes=("z",) * 3, most=3)
        self.check("shape", yes=("z",) * 4, most=3)
        self.check("order", yes=("z",) * 60, most=60)
        self.check("shape", yes=("z",) * 61, most=60)

    def test_lists_in_the_place_of_tuples_are_none(self):
        self.check("shape", kinds=list(KINDS))
        self.check("shape", rows=list(ROWS))
        self.check("shape", rows=[])
        self.check("shape", rows=(list(ROWS[0]), ROWS[1]))
        self.check("shape", rows=(ROWS[0], list(ROWS[1])))
        self.check("shape", gates=list(GATES))
        self.check("shape", gates=(list(GATES[0]),))
        self.check("shape", gates=(GATES[0], ["out", "m"]))
        self.check("shape", yes=list(YES))
        self.check("shape", yes=[])

    def test_dicts_in_the_place_of_tuples_are_none(self):
        self.check("shape", kinds={"z": 0, "m": 1, "a": 2})
        self.check("shape", rows={})
        self.check("shape", rows={ROWS[0]: 1, ROWS[1]: 2})
        self.check("shape", rows=({"z": 1, "m": 2, "a": 3, "b": 4},))
        self.check("shape", gates={"inn": "z"})
        self.check("shape", gates={("inn", "z"): 0})
        self.check("shape", gates=({"inn": 0, "z": 1},))
        self.check("shape", yes={})
        self.check("shape", yes={"m": 0})

    def test_of_anything_in_one_place(self):
        for thing in OTHER_THINGS:
            with self.subTest(thing):
                self.check("shape", kinds=thing, rows=())
                self.check("shape", rows=thing)
                self.check("shape", gates=thing)
                self.check("shape", yes=thing)

    def test_of_anything_within_one_place(self):
        for thing in OTHER_THINGS:
            if thing in ("z", "zm", "zmmm", "inn"):
                continue
            with self.subTest(thing):
                self.check("shape", kinds=(*KINDS, thing))
                self.check("shape", rows=(*ROWS, thing))
                self.check("shape", rows=(*ROWS, ("a", "a", "a", thing)))
                self.check("shape", gates=(*GATES, thing))
                self.check("shape", gates=(*GATES, ("out", thing)))
                self.check("shape", yes=("z", thing))

    def test_of_anything_in_all_four_places(self):
        for thing in OTHER_THINGS:
            with self.subTest(thing):
                self.check("shape", thing, thing, thing, yes=thing)

    def test_no_tuple_of_rows_is_made_of_the_row_itself(self):
        self.check("shape", rows=("z", "m", "m", "m"))
        self.check("shape", gates=("inn", "z"))


class NamesTest(WhyTest):
    def test_a_kind_twice_among_the_kinds(self):
        self.check("names", ("z", "z"), (), (("inn", "z"),))
        self.check("names", ("z", "m", "z"), (), (("inn", "z"),))
        self.check("names", ("a", "z", "m", "m"), (), (("inn", "z"),))

    def test_a_gates_word_twice(self):
        self.check("names", gates=(("inn", "z"), ("inn", "m")))
        self.check("names", gates=(("inn", "z"), ("inn", "z")))
        self.check("names", gates=(("inn", "z"), ("out", "m"), ("inn", "a")))
        self.check("names", gates=(("inn", "z"), ("out", "m"), ("out", "m")))

    def test_gates_may_lead_to_one_kind_and_be_called_as_kinds_are(self):
        self.check(None, gates=(("inn", "z"), ("out", "z"), ("up", "z")))
        self.check(None, gates=(("z", "m"), ("m", "z"), ("a", "a")))
        self.check(None, gates=(("c", "a"), ("b", "m"), ("a", "z")))

    def test_an_unknown_kind_in_each_place_of_a_row(self):
        for place in range(4):
            row = ["z", "m", "m", "m"]
            row[place] = "q"
            with self.subTest(place):
                self.check("names", rows=(tuple(row),))
                self.check("names", rows=(tuple(row), ROWS[1]))
                self.check("names", rows=(("z", "z", "z", "m"), tuple(row)))

    def test_an_unknown_kind_in_gates(self):
        self.check("names", gates=(("inn", "q"),))
        self.check("names", gates=(("z", "inn"),))
        self.check("names", gates=(("inn", "z"), ("out", "q")))
        self.check("names", gates=(("inn", "z"), ("out", "m"), ("up", "zz")))

    def test_an_unknown_kind_in_yes(self):
        self.check("names", yes=("q",))
        self.check("names", yes=("z", "q"))
        self.check("names", yes=("inn",))

    def test_what_only_begins_like_a_kind_is_unknown(self):
        self.check("names", ("one", "two"), (), (("inn", "on"),))
        self.check("names", ("one", "two"), (), (("inn", "one"),), yes=("tw",))


class OrderTest(WhyTest):
    def test_a_behind_b(self):
        self.check("order", rows=(("m", "z", "m", "m"),))
        self.check("order", rows=(("a", "z", "z", "z"),))
        self.check("order", rows=(("a", "m", "z", "z"),))
        self.check("order", rows=(ROWS[0], ("a", "m", "z", "z")))
        self.check("order", rows=(("z", "m", "m", "m"), ("a", "m", "z", "z"), ("a", "a", "z", "z")))

    def test_c_behind_d(self):
        self.check("order", rows=(("z", "z", "m", "z"),))
        self.check("order", rows=(("z", "m", "a", "m"),))
        self.check("order", rows=(("z", "m", "m", "z"),))
        self.check("order", rows=(ROWS[0], ("m", "a", "a", "z")))

    def test_a_row_that_changes_nothing(self):
        self.check("order", rows=(("z", "z", "z", "z"),))
        self.check("order", rows=(("z", "m", "z", "m"),))
        self.check("order", rows=(ROWS[0], ("a", "a", "a", "a")))
        self.check("order", rows=(("z", "z", "z", "m"), ("z", "m", "z", "m"), ("a", "a", "m", "a")))

    def test_a_row_that_changes_one_of_the_two(self):
        self.check(None, rows=(("z", "m", "z", "a"),))
        self.check(None, rows=(("z", "m", "z", "z"),))
        self.check(None, rows=(("z", "m", "m", "m"),))
        self.check(None, rows=(("z", "z", "z", "a"),))
        self.check(None, rows=(("m", "a", "z", "a"),))

    def test_rows_rise_by_a(self):
        self.check(None, rows=(("z", "z", "m", "m"), ("m", "m", "z", "z"), ("a", "a", "z", "z")))
        self.check("order", rows=(("m", "m", "z", "z"), ("z", "z", "m", "m"), ("a", "a", "z", "z")))
        self.check("order", rows=(("z", "z", "m", "m"), ("a", "a", "z", "z"), ("m", "m", "z", "z")))

    def test_rows_of_one_a_rise_by_b(self):
        self.check(None, rows=(("z", "z", "m", "m"), ("z", "m", "z", "z"), ("z", "a", "z", "z")))
        self.check("order", rows=(("z", "m", "z", "z"), ("z", "z", "m", "m"), ("z", "a", "z", "z")))
        self.check("order", rows=(("z", "z", "m", "m"), ("z", "a", "z", "z"), ("z", "m", "z", "z")))

    def test_rows_rise_by_a_ahead_of_b(self):
        self.check(None, rows=(("z", "a", "z", "z"), ("m", "m", "z", "z")))
        self.check("order", rows=(("m", "m", "z", "z"), ("z", "a", "z", "z")))

    def test_rows_need_not_rise_by_c_and_d(self):
        self.check(None, rows=(("z", "z", "a", "a"), ("z", "m", "m", "m"), ("z", "a", "z", "z")))

    def test_two_rows_of_one_a_and_b(self):
        self.check("order", rows=(ROWS[0], ROWS[0]))
        self.check("order", rows=(("z", "m", "z", "z"), ("z", "m", "m", "m")))
        self.check("order", rows=(("z", "z", "z", "m"), ("m", "a", "z", "z"), ("m", "a", "m", "m")))

    def test_yes_rises(self):
        self.check(None, yes=("z", "m"))
        self.check(None, yes=("m", "a"))
        self.check("order", yes=("m", "z"))
        self.check("order", yes=("a", "m", "z"))
        self.check("order", yes=("z", "a", "m"))
        self.check("order", yes=("m", "z", "a"))

    def test_yes_with_a_kind_twice(self):
        self.check("order", yes=("z", "z"))
        self.check("order", yes=("z", "m", "m"))
        self.check("order", yes=("z", "m", "z"))


class PrecedenceTest(WhyTest):
    """Each fault in each place, so that whichever is looked at first, the first word is told."""

    FAULTS = {
        "shape": (
            {"kinds": ("z", "m", "A")}, {"rows": (("z", "m", "m"),)}, {"gates": ()}, {"yes": None},
        ),
        "names": (
            {"kinds": ("z", "m", "a", "z")}, {"rows": (("z", "m", "m", "q"),)}, {"gates": (("inn", "q"),)},
            {"gates": (("inn", "z"), ("inn", "z"))}, {"yes": ("q",)},
        ),
        "order": (
            {"rows": (("m", "z", "m", "m"),)}, {"rows": (("z", "m", "m", "z"),)}, {"rows": (("z", "m", "z", "m"),)},
            {"rows": ROWS[::-1]}, {"yes": ("a", "z")},
        ),
    }

    def test_each_by_itself(self):
        for why, faults in self.FAULTS.items():
            for fault in faults:
                with self.subTest(why, fault=fault):
                    self.check(why, **fault)

    def test_each_two_in_unlike_places(self):
        for first, second in (("shape", "names"), ("shape", "order"), ("names", "order")):
            for one in self.FAULTS[first]:
                for other in self.FAULTS[second]:
                    if one.keys() != other.keys():
                        with self.subTest(first, one=one, other=other):
                            self.check(first, **{**other, **one})

    def test_two_in_one_place(self):
        self.check("shape", rows=(("z", "m", "m", "q"), ("z", "m", "m")))
        self.check("shape", rows=(("m", "z", "m", "m"), ("z", "m", "m", "")))
        self.check("names", rows=(("m", "z", "m", "m"), ("z", "m", "m", "q")))
        self.check("names", rows=(("m", "z", "q", "m"),))
        self.check("names", yes=("a", "z", "q"))
        self.check("names", yes=("q", "q"))
        self.check("shape", gates=(("inn", "q"), ("inn", "z", "z")))
        self.check("shape", kinds=("z", "z", "Z"))
        self.check("shape", kinds=("z",) * 9)
        self.check("shape", kinds=("z",))

    def test_all_three_at_once(self):
        self.check("shape", KINDS, (("m", "z", "m", "m"),), (("inn", "q"),), yes=["m"])
        self.check("names", KINDS, (("m", "z", "m", "m"),), (("inn", "q"),), yes=("m",))
        self.check("order", KINDS, (("m", "z", "m", "m"),), (("inn", "z"),), yes=("m",))


class ArgumentsTest(unittest.TestCase):
    def test_behind_the_star_in_any_order(self):
        kinds = words(9)
        for ask in (why_no_custom, Custom):
            with self.subTest(ask.__name__):
                one = ask(kinds, (), (("inn", "aa"),), yes=("ab",), most=9)
                other = ask(kinds, (), (("inn", "aa"),), most=9, yes=("ab",))
                self.assertEqual(one, other)

    def test_all_by_name_in_any_order(self):
        named = {"most": 3, "gates": GATES, "yes": YES, "rows": ROWS, "kinds": KINDS}
        for names in itertools.permutations(named):
            handed = {name: named[name] for name in names}
            self.assertIsNone(why_no_custom(**handed))
            self.assertEqual(Custom(**handed), Custom(KINDS, ROWS, GATES, yes=YES))

    def test_yes_and_most_are_handed_in_by_name_alone(self):
        for ask in (why_no_custom, Custom):
            with self.subTest(ask.__name__):
                with self.assertRaises(TypeError):
                    ask(KINDS, ROWS, GATES, YES)
                with self.assertRaises(TypeError):
                    ask(KINDS, ROWS, GATES, YES, 3)


if __name__ == "__main__":
    unittest.main()
