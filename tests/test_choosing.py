"""Choosers by their words (point 21)."""

import unittest

from crowdsay.choosing import chosen


class ChosenTest(unittest.TestCase):
    def test_is_defined_in_this_file(self):
        self.assertEqual(chosen.__module__, "crowdsay.choosing")

    def test_least_and_last(self):
        for numbers in ([3], [1, 4, 9], [9, 4, 1], [4, 9, 1], [4, 1, 9], [0, 0]):
            self.assertEqual(chosen("least", (2, 1), numbers), min(numbers))
            self.assertEqual(chosen("last", (2, 1), numbers), max(numbers))

    def test_even_by_how_many_folk_there_are(self):
        numbers = [7, 3, 5]
        for many in range(1, 12):
            self.assertEqual(chosen("even", (many, 0), numbers), numbers[many % 3])
            self.assertEqual(chosen("even", (0, many - 1, 1), numbers), numbers[many % 3])
            self.assertEqual(chosen("even", (many,), [4]), 4)
        self.assertEqual(chosen("even", (150, 150), [2, 1, 0, 8, 9, 6, 5]), 5)

    def test_by_name(self):
        self.assertEqual(chosen(numbers=[2, 5], crowd=(1, 2), word="even"), 5)

    def test_what_is_handed_in_stays(self):
        numbers = [5, 2, 9]
        for word in ("least", "last", "even"):
            chosen(word, (4, 4), numbers)
        self.assertEqual(numbers, [5, 2, 9])


if __name__ == "__main__":
    unittest.main()
