"""Rows that can be done, crowds behind them, and trails (points 2, 6 and 7)."""

import unittest

from crowdsay import meetings
from crowdsay.customs import Custom
from crowdsay.errors import NoMeeting
from crowdsay.meetings import behind, can_be_done, trail

GATES = (("inn", "z"),)
# Rows of one kind twice at both ends, of two unlike kinds between; the places run against the letters.
CUSTOM = Custom(
    ("z", "m", "a"),
    (("z", "z", "z", "m"), ("z", "m", "m", "m"), ("m", "a", "z", "z"), ("a", "a", "m", "a")),
    GATES,
)
NO_ROWS = Custom(("z", "m"), (), GATES)
TWO_AT_ONCE = Custom(("z", "m"), (("z", "z", "m", "m"),), GATES)


class CanBeDoneTest(unittest.TestCase):
    def test_all_is_defined_in_this_file(self):
        for thing in (can_be_done, behind, trail):
            self.assertEqual(thing.__module__, "crowdsay.meetings")
            self.assertIs(getattr(meetings, thing.__name__), thing)

    def test_rows_of_one_kind_twice_need_two_folk(self):
        self.assertEqual(can_be_done(CUSTOM, (1, 0, 0)), [])
        self.assertEqual(can_be_done(CUSTOM, (2, 0, 0)), [0])
        self.assertEqual(can_be_done(CUSTOM, (3, 0, 0)), [0])
        self.assertEqual(can_be_done(CUSTOM, (0, 0, 1)), [])
        self.assertEqual(can_be_done(CUSTOM, (0, 0, 2)), [3])

    def test_rows_of_two_unlike_kinds_need_one_of_each(self):
        self.assertEqual(can_be_done(CUSTOM, (1, 1, 0)), [1])
        self.assertEqual(can_be_done(CUSTOM, (0, 1, 1)), [2])
        self.assertEqual(can_be_done(CUSTOM, (0, 1, 0)), [])
        self.assertEqual(can_be_done(CUSTOM, (0, 9, 0)), [])
        self.assertEqual(can_be_done(CUSTOM, (1, 0, 1)), [])

    def test_the_numbers_rise(self):
        self.assertEqual(can_be_done(CUSTOM, (2, 1, 2)), [0, 1, 2, 3])
        self.assertEqual(can_be_done(CUSTOM, (2, 0, 2)), [0, 3])
        self.assertEqual(can_be_done(CUSTOM, (1, 1, 1)), [1, 2])
        self.assertEqual(can_be_done(CUSTOM, (100, 100, 100)), [0, 1, 2, 3])

    def test_of_a_custom_without_rows(self):
        self.assertEqual(can_be_done(NO_ROWS, (5, 5)), [])

    def test_a_list_that_is_the_askers_own(self):
        told = can_be_done(CUSTOM, (2, 1, 2))
        self.assertIsInstance(told, list)
        told.clear()
        told.append(77)
        self.assertEqual(can_be_done(CUSTOM, (2, 1, 2)), [0, 1, 2, 3])

    def test_by_name(self):
        self.assertEqual(can_be_done(crowd=(2, 0, 0), custom=CUSTOM), [0])

    def test_of_a_custom_of_many_kinds(self):
        letters = "abcdefghijklmnopqrstuvwxyz"
        kinds = tuple([one + other for one in "abc" for other in letters][:60])
        rows = tuple([(kind, kinds[-1], kinds[-1], kinds[-1]) for kind in kinds[:-1]])
        custom = Custom(kinds, rows, (("inn", kinds[0]),), most=60)
        crowd = tuple([1, 0] * 29 + [1, 1])
        self.assertEqual(can_be_done(custom, crowd), list(range(0, 59, 2)))
        self.assertEqual(behind(custom, crowd, 58), tuple([1, 0] * 29 + [0, 2]))


class BehindTest(unittest.TestCase):
    def test_one_a_and_one_b_fewer_one_c_and_one_d_more(self):
        self.assertEqual(behind(CUSTOM, (2, 1, 2), 0), (1, 2, 2))
        self.assertEqual(behind(CUSTOM, (2, 1, 2), 1), (1, 2, 2))
        self.assertEqual(behind(CUSTOM, (2, 1, 2), 2), (4, 0, 1))
        self.assertEqual(behind(CUSTOM, (2, 1, 2), 3), (2, 2, 1))

    def test_of_the_fewest_folk(self):
        self.assertEqual(behind(CUSTOM, (2, 0, 0), 0), (1, 1, 0))
        self.assertEqual(behind(CUSTOM, (1, 1, 0), 1), (0, 2, 0))
        self.assertEqual(behind(CUSTOM, (0, 1, 1), 2), (2, 0, 0))
        self.assertEqual(behind(CUSTOM, (0, 0, 2), 3), (0, 1, 1))
        self.assertEqual(behind(TWO_AT_ONCE, (2, 0), 0), (0, 2))

    def test_of_three_hundred_folk(self):
        self.assertEqual(behind(CUSTOM, (100, 100, 100), 2), (102, 99, 99))
        self.assertEqual(behind(TWO_AT_ONCE, (300, 0), 0), (298, 2))

    def test_a_tuple(self):
        self.assertIsInstance(behind(CUSTOM, (2, 0, 0), 0), tuple)

    def test_by_name(self):
        self.assertEqual(behind(number=0, crowd=(2, 0, 0), custom=CUSTOM), (1, 1, 0))

    def test_each_row_that_can_be_done_keeps_how_many_folk_there_are(self):
        for z in range(4):
            for m in range(4):
                for a in range(4):
                    for number in can_be_done(CUSTOM, (z, m, a)):
                        crowd = behind(CUSTOM, (z, m, a), number)
                        self.assertEqual(sum(crowd), z + m + a)
                        self.assertTrue(min(crowd) >= 0)


class TrailTest(unittest.TestCase):
    def refused_at(self, place, crowd, numbers, custom=CUSTOM):
        before = list(numbers)
        with self.assertRaises(NoMeeting) as caught:
            trail(custom, crowd, numbers)
        self.assertEqual(caught.exception.place, place)
        self.assertEqual(numbers, before)

    def test_of_no_rows(self):
        self.assertEqual(trail(CUSTOM, (2, 1, 2), []), [(2, 1, 2)])
        self.assertEqual(trail(NO_ROWS, (2, 1), []), [(2, 1)])

    def test_of_one_row(self):
        self.assertEqual(trail(CUSTOM, (2, 0, 0), [0]), [(2, 0, 0), (1, 1, 0)])

    def test_of_many_rows(self):
        crowds = [(3, 0, 2), (2, 1, 2), (1, 2, 2), (1, 3, 1), (3, 2, 0), (2, 3, 0)]
        self.assertEqual(trail(CUSTOM, (3, 0, 2), [0, 1, 3, 2, 0]), crowds)

    def test_of_very_many_rows(self):
        swing = Custom(("z", "m"), (("z", "z", "z", "m"), ("z", "m", "z", "z")), GATES)
        crowds = trail(swing, (2, 0), [0, 1] * 500)
        self.assertEqual(crowds, [(2, 0), (1, 1)] * 500 + [(2, 0)])

    def test_each_row_is_asked_of_the_crowd_ahead_of_it(self):
        self.assertEqual(trail(TWO_AT_ONCE, (4, 0), [0, 0]), [(4, 0), (2, 2), (0, 4)])
        self.refused_at(2, (4, 0), [0, 0, 0], TWO_AT_ONCE)
        self.refused_at(1, (3, 0), [0, 0], TWO_AT_ONCE)

    def test_the_first_one_that_cannot_be_done(self):
        self.refused_at(0, (1, 0, 0), [0])
        self.refused_at(0, (1, 0, 0), [0, 0, 0])
        self.refused_at(0, (2, 0, 0), [3, 0])
        self.refused_at(0, (0, 1, 0), [1])
        self.refused_at(0, (1, 0, 0), [1])
        self.refused_at(0, (1, 0, 1), [2])
        self.refused_at(0, (0, 1, 0), [2])

    def test_a_middle_one_that_cannot_be_done(self):
        self.refused_at(1, (2, 0, 0), [0, 0, 1])
        self.refused_at(2, (3, 0, 2), [0, 1, 0, 3, 2])

    def test_the_last_one_that_cannot_be_done(self):
        self.refused_at(2, (2, 0, 0), [0, 1, 1])
        self.refused_at(5, (3, 0, 2), [0, 1, 3, 2, 0, 3])

    def test_a_number_below_nought_is_no_row(self):
        self.refused_at(0, (2, 1, 2), [-1])
        self.refused_at(0, (2, 1, 2), [-4])
        self.refused_at(0, (2, 1, 2), [-5])
        self.refused_at(1, (2, 1, 2), [0, -1, 0])
        self.refused_at(1, (2, 1, 2), [0, -(10 ** 30)])

    def test_a_number_behind_the_last_row_is_no_row(self):
        self.refused_at(0, (2, 1, 2), [4])
        self.refused_at(0, (2, 1, 2), [5, 0])
        self.refused_at(2, (2, 1, 2), [3, 0, 4])
        self.refused_at(1, (2, 1, 2), [0, 10 ** 30])

    def test_a_custom_without_rows_has_no_number(self):
        self.refused_at(0, (2, 2), [0], NO_ROWS)
        self.refused_at(0, (2, 2), [-1], NO_ROWS)

    def test_the_first_of_several(self):
        self.refused_at(1, (2, 0, 0), [0, -1, 9, 0])
        self.refused_at(1, (2, 0, 0), [0, 9, -1, 0])

    def test_numbers_stay_and_the_told_list_is_the_askers_own(self):
        numbers = [0, 1]
        told = trail(CUSTOM, (2, 0, 0), numbers)
        self.assertIsInstance(told, list)
        self.assertTrue(all(isinstance(crowd, tuple) for crowd in told))
        self.assertEqual(numbers, [0, 1])
        told.clear()
        self.assertEqual(trail(CUSTOM, (2, 0, 0), numbers), [(2, 0, 0), (1, 1, 0), (0, 2, 0)])
        numbers.append(1)
        self.assertEqual(told, [])

    def test_by_name(self):
        self.assertEqual(trail(numbers=[0], custom=CUSTOM, crowd=(2, 0, 0)), [(2, 0, 0), (1, 1, 0)])

    def test_nothing_of_the_custom_changes(self):
        shown = repr(CUSTOM)
        can_be_done(CUSTOM, (2, 1, 2))
        behind(CUSTOM, (2, 1, 2), 0)
        trail(CUSTOM, (2, 1, 2), [0, 1, 2])
        self.refused_at(0, (1, 0, 0), [0])
        self.assertEqual(repr(CUSTOM), shown)


if __name__ == "__main__":
    unittest.main()
