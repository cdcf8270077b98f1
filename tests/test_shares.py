"""Shares: exact parts of whole numbers (points 2 and 11)."""

import unittest
from fractions import Fraction

from crowdsay.errors import NoShare
from crowdsay.shares import Share

GREAT = 10 ** 200 + 7
NUMBERS = (0, 1, -1, 2, -2, 3, -4, 6, 12, -30, 10 ** 60, -(10 ** 60) - 1, GREAT, -GREAT)
PAIRS = tuple([(top, bottom) for top in NUMBERS for bottom in NUMBERS if bottom != 0])


class ShareTest(unittest.TestCase):
    def are(self, share, top, bottom):
        self.assertIs(type(share), Share)
        self.assertEqual((share.top, share.bottom), (top, bottom))
        self.assertEqual((type(share.top), type(share.bottom)), (int, int))

    def refused(self, top, ask, *things, **named):
        with self.assertRaises(NoShare) as caught:
            ask(*things, **named)
        self.assertEqual(caught.exception.top, top)

    def test_all_is_defined_in_the_class_itself(self):
        self.assertEqual(Share.__module__, "crowdsay.shares")
        for name in ("__init__", "__eq__", "__str__", "__repr__", "plus", "less", "times", "by"):
            self.assertIn(name, vars(Share))

    def test_kept_without_a_common_part(self):
        self.are(Share(2, 4), 1, 2)
        self.are(Share(12, 18), 2, 3)
        self.are(Share(7, 7), 1, 1)
        self.are(Share(9, 3), 3, 1)
        self.are(Share(3, 2), 3, 2)
        self.are(Share(10 ** 60, 5 * 10 ** 59), 2, 1)

    def test_bottom_above_nought(self):
        self.are(Share(1, -2), -1, 2)
        self.are(Share(-1, -2), 1, 2)
        self.are(Share(-1, 2), -1, 2)
        self.are(Share(-6, 4), -3, 2)
        self.are(Share(6, -3), -2, 1)
        self.are(Share(-5, -1), 5, 1)

    def test_nought(self):
        for bottom in (1, 2, -1, -7, 10 ** 60):
            self.are(Share(0, bottom), 0, 1)
        self.are(Share(0), 0, 1)

    def test_bottom_left_out(self):
        self.are(Share(7), 7, 1)
        self.are(Share(-7), -7, 1)
        self.are(Share(GREAT), GREAT, 1)

    def test_by_name(self):
        self.are(Share(bottom=4, top=6), 3, 2)
        self.are(Share(top=6), 6, 1)
        self.are(Share(1).plus(other=Share(1)), 2, 1)
        self.are(Share(1).less(other=Share(1)), 0, 1)
        self.are(Share(3).times(other=Share(2)), 6, 1)
        self.are(Share(3).by(other=Share(2)), 3, 2)

    def test_against_fractions(self):
        for top, bottom in PAIRS:
            whole = Fraction(top, bottom)
            self.are(Share(top, bottom), whole.numerator, whole.denominator)

    def test_of_a_bottom_nought(self):
        for top in (0, 1, -1, 12, -12, GREAT, -GREAT):
            self.refused(top, Share, top, 0)
            self.refused(top, Share, top, bottom=0)

    def test_equal_where_both_numbers_are(self):
        self.assertTrue(Share(1, 2) == Share(1, 2))
        self.assertTrue(Share(2, 4) == Share(-3, -6))
        self.assertFalse(Share(2, 4) != Share(-3, -6))
        self.assertTrue(Share(0, 5) == Share(0, -3))
        self.assertTrue(Share(4, 2) == Share(2))

    def test_unequal(self):
        for other in (Share(1, 3), Share(2, 2), Share(-1, 2), Share(0), Share(2), Share(3, 2)):
            self.assertFalse(Share(1, 2) == other)
            self.assertTrue(Share(1, 2) != other)

    def test_no_share_equals_anything_else(self):
        for share in (Share(1, 2), Share(1), Share(0), Share(2, 1)):
            for thing in (0, 1, 2, True, False, None, "1", "1/2", "Share(1, 2)", (1, 2), (1, 1), [1, 2], {}, (), "",
                          Fraction(1, 2), Fraction(1)):
                self.assertFalse(share == thing)
                self.assertFalse(thing == share)
                self.assertTrue(share != thing)

    def test_its_text(self):
        self.assertEqual(str(Share(1, 2)), "1/2")
        self.assertEqual(str(Share(-2, 4)), "-1/2")
        self.assertEqual(str(Share(2, -4)), "-1/2")
        self.assertEqual(str(Share(4, 2)), "2")
        self.assertEqual(str(Share(-4, 2)), "-2")
        self.assertEqual(str(Share(0, 9)), "0")
        self.assertEqual(str(Share(10, 4)), "5/2")
        self.assertEqual(str(Share(1, GREAT)), "1/" + "1" + "0" * 199 + "7")
        self.assertEqual(f"{Share(1, 2)}", "1/2")

    def test_shown(self):
        self.assertEqual(repr(Share(1, 2)), "Share(1, 2)")
        self.assertEqual(repr(Share(-2, 4)), "Share(-1, 2)")
        self.assertEqual(repr(Share(4, 2)), "Share(2, 1)")
        self.assertEqual(repr(Share(0)), "Share(0, 1)")
        self.assertEqual(repr([Share(1, 3)]), "[Share(1, 3)]")
        self.assertEqual(str([Share(3)]), "[Share(3, 1)]")

    def test_added(self):
        self.are(Share(1, 2).plus(Share(1, 3)), 5, 6)
        self.are(Share(1, 2).plus(Share(1, 2)), 1, 1)
        self.are(Share(1, 2).plus(Share(-1, 2)), 0, 1)
        self.are(Share(1, 6).plus(Share(1, 3)), 1, 2)

    def test_taken_away(self):
        self.are(Share(1, 2).less(Share(1, 3)), 1, 6)
        self.are(Share(1, 3).less(Share(1, 2)), -1, 6)
        self.are(Share(1, 2).less(Share(1, 2)), 0, 1)
        self.are(Share(0).less(Share(3, 7)), -3, 7)

    def test_multiplied(self):
        self.are(Share(2, 3).times(Share(3, 4)), 1, 2)
        self.are(Share(2, 3).times(Share(-3, 2)), -1, 1)
        self.are(Share(2, 3).times(Share(0)), 0, 1)

    def test_divided(self):
        self.are(Share(1, 2).by(Share(1, 4)), 2, 1)
        self.are(Share(1, 2).by(Share(-1, 4)), -2, 1)
        self.are(Share(-1, 2).by(Share(-3)), 1, 6)
        self.are(Share(0).by(Share(-3, 2)), 0, 1)

    def test_by_nought(self):
        self.refused(1, Share(1, 2).by, Share(0))
        self.refused(1, Share(2, 4).by, Share(0, 5))
        self.refused(-1, Share(2, -4).by, Share(0, -5))
        self.refused(3, Share(9, 3).by, other=Share(0))
        self.refused(0, Share(0, 7).by, Share(0))
        self.refused(GREAT, Share(GREAT, 2).by, Share(0))

    def test_all_four_against_fractions(self):
        for top, bottom in PAIRS:
            for number, other in PAIRS[::5]:
                one, two = Share(top, bottom), Share(number, other)
                left, right = Fraction(top, bottom), Fraction(number, other)
                self.are(one.plus(two), (left + right).numerator, (left + right).denominator)
                self.are(one.less(two), (left - right).numerator, (left - right).denominator)
                self.are(one.times(two), (left * right).numerator, (left * right).denominator)
                if right:
                    self.are(one.by(two), (left / right).numerator, (left / right).denominator)
                self.assertEqual(one == two, left == right)

    def test_by_themselves(self):
        share = Share(-6, 4)
        self.are(share.plus(share), -3, 1)
        self.are(share.less(share), 0, 1)
        self.are(share.times(share), 9, 4)
        self.are(share.by(share), 1, 1)
        nought = Share(0)
        self.are(nought.plus(nought), 0, 1)
        self.refused(0, nought.by, nought)
        self.assertTrue(share == share)

    def test_neither_share_changes(self):
        one, other = Share(1, 2), Share(2, 3)
        for told in (one.plus(other), one.less(other), one.times(other), one.by(other)):
            self.assertIsNot(told, one)
            self.assertIsNot(told, other)
        self.refused(1, one.by, Share(0))
        self.are(one, 1, 2)
        self.are(other, 2, 3)


if __name__ == "__main__":
    unittest.main()
