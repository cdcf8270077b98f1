"""Throngs (points 2, 3, 22 and 24)."""

import itertools
import os
import random
import sys
import time
import unittest

sys.path.insert(0, os.path.dirname(os.path.abspath(__file__)))

from plain import is_plainly_so, leaf_of, leaves_of, s_of, sentence_of, word_of

from crowdsay.errors import NoFolk, NoGate, NoKin, NoMark
from crowdsay.questions import plainly
from crowdsay.throng import MOST_PARTS, Throng

MORE = ("least", (1, -1), 1)
EVEN = ("rest", (1,), 2, 0)
GATES = ("a", "b", "c")


def came_to(throng, counts):
    for word, many in zip(GATES, counts):
        if many:
            throng.come(word, many=many)
    return throng


def seen(throng, gates):
    """All that a throng tells."""
    folk = [throng.says(number) for number in range(len(throng))]
    return len(throng), folk, throng.said(), [throng.came(word) for word in GATES[:gates]], throng.came()


def rows_for(sentence, folk):
    """After how many rows of meetings all are to say whether it is so."""
    return 3 * max([s_of(leaf) for leaf in leaves_of(sentence) if leaf[0] == "least"], default=0) * folk + 2


def meet_all(throng, chance):
    """Each two meet at least once, in whatever order."""
    folk = range(len(throng))
    pairs = [chance.choice([(one, other), (other, one)]) for one, other in itertools.combinations(folk, 2)]
    if pairs:
        pairs += [chance.choice(pairs)[::chance.choice([-1, 1])] for _ in range(chance.randint(0, 3))]
    chance.shuffle(pairs)
    for one, other in pairs:
        throng.meet(one, other)


class ComeTest(unittest.TestCase):
    def test_is_defined_in_this_file(self):
        self.assertEqual(Throng.__module__, "crowdsay.throng")
        self.assertEqual(MOST_PARTS, 12)
        for name in ("come", "meet", "says", "said", "came", "pour", "stretch", "mark", "back", "copy"):
            self.assertIn(name, vars(Throng))

    def test_it_begins_with_nobody(self):
        self.assertEqual(seen(Throng(sentence=MORE), 2), (0, [], None, [0, 0], 0))

    def test_told_are_the_numbers_of_the_new_ones(self):
        throng = Throng(MORE)
        self.assertEqual(throng.come("a"), [0])
        self.assertEqual(throng.come("b", many=3), [1, 2, 3])
        self.assertEqual(throng.come(gate="a", many=50), list(range(4, 54)))
        self.assertEqual(throng.come("b"), [54])
        self.assertEqual(len(throng), 55)
        self.assertEqual([throng.came("a"), throng.came(gate="b")], [51, 4])
        self.assertEqual([throng.came(), throng.came(gate=None)], [55, 55])

    def test_the_told_list_is_the_askers_own(self):
        throng = Throng(EVEN)
        throng.come("a", many=2).append(9)
        self.assertEqual(throng.come("a"), [2])

    def test_as_many_gates_as_weights(self):
        for many in (1, 2, 3):
            throng = Throng(("least", (1, 2, 3)[:many], 2))
            for word in GATES[:many]:
                throng.come(word)
                self.assertEqual(throng.came(word), 1)
            for word in (*GATES[many:], "d", "", "A", "ab", "inn"):
                with self.assertRaises(NoGate) as raised:
                    throng.come(word)
                self.assertEqual(raised.exception.word, word)
                with self.assertRaises(NoGate):
                    throng.come(word, many=3)
                with self.assertRaises(NoGate) as raised:
                    throng.came(word)
                self.assertEqual(raised.exception.word, word)
            self.assertEqual((len(throng), throng.came()), (many, many))

    def test_nobody_else_changes_by_a_coming(self):
        chance = random.Random(1)
        for _ in range(60):
            throng = came_to(Throng(sentence_of(chance, 2, 2)), (2, 2))
            meet_all(throng, chance)
            before = seen(throng, 2)[1]
            throng.come(chance.choice("ab"), many=2)
            self.assertEqual(seen(throng, 2)[1][:4], before)

    def test_one_by_itself_says_whether_it_is_so(self):
        chance = random.Random(2)
        for _ in range(300):
            sentence = sentence_of(chance, 2, 3)
            for counts in ((1, 0), (0, 1)):
                throng = came_to(Throng(sentence), counts)
                word = word_of(is_plainly_so(sentence, counts))
                self.assertEqual((throng.says(0), throng.said()), (word, word))
                self.assertEqual(throng.stretch(), 0)


class MeetTest(unittest.TestCase):
    def test_nobody_else_changes_by_it(self):
        chance = random.Random(3)
        for _ in range(40):
            throng = came_to(Throng(sentence_of(chance, 3, 2)), (2, 1, 2))
            for _ in range(30):
                one, other = chance.sample(range(5), 2)
                before = seen(throng, 3)[1]
                self.assertIsNone(throng.meet(one, other))
                after = seen(throng, 3)[1]
                for number in range(5):
                    if number not in (one, other):
                        self.assertEqual(after[number], before[number])

    def test_by_name(self):
        throng = came_to(Throng(EVEN), (2,))
        throng.meet(other=1, one=0)
        self.assertEqual(throng.said(), "yes")

    def test_numbers_that_are_nobodys(self):
        throng = came_to(Throng(EVEN), (3,))
        before = seen(throng, 1)
        for one, other, number in (
            (3, 0, 3), (0, 3, 3), (-1, 0, -1), (0, -1, -1), (5, 4, 5), (4, 5, 4), (7, 7, 7), (1, 1, 1), (0, 0, 0),
            (10 ** 60, 1, 10 ** 60), (2, 10 ** 60, 10 ** 60), (-3, -3, -3), (-1, 99, -1),
        ):
            with self.assertRaises(NoFolk) as raised:
                throng.meet(one, other)
            self.assertEqual(raised.exception.number, number)
            self.assertEqual(seen(throng, 1), before)

    def test_of_nobody(self):
        with self.assertRaises(NoFolk) as raised:
            Throng(EVEN).meet(0, 1)
        self.assertEqual(raised.exception.number, 0)


class SayTest(unittest.TestCase):
    def test_what_a_folk_says(self):
        throng = came_to(Throng(MORE), (2, 2))
        self.assertEqual([throng.says(number) for number in range(4)], ["yes", "yes", "no", "no"])
        self.assertEqual(throng.says(number=3), "no")
        self.assertIsNone(throng.said())
        for number in (4, -1, 99, 10 ** 60):
            with self.assertRaises(NoFolk) as raised:
                throng.says(number)
            self.assertEqual(raised.exception.number, number)

    def test_what_all_say(self):
        self.assertEqual(came_to(Throng(MORE), (3, 0)).said(), "yes")
        self.assertEqual(came_to(Throng(MORE), (0, 3)).said(), "no")
        self.assertIsNone(came_to(Throng(MORE), (1, 1)).said())
        self.assertIsNone(Throng(MORE).said())


class PourTest(unittest.TestCase):
    def test_they_come_as_they_are_behind_these(self):
        chance = random.Random(4)
        for _ in range(60):
            sentence = sentence_of(chance, 2, 3)
            one = came_to(Throng(sentence), (chance.randint(0, 3), 1))
            other = came_to(Throng(sentence), (chance.randint(0, 3), chance.randint(0, 3)))
            meet_all(one, chance)
            meet_all(other, chance)
            firsts, seconds = seen(one, 2), seen(other, 2)
            self.assertIsNone(one.pour(other))
            both = seen(one, 2)
            self.assertEqual(both[1], firsts[1] + seconds[1])
            self.assertEqual(both[3], [first + second for first, second in zip(firsts[3], seconds[3])])
            self.assertEqual((both[0], both[4]), (firsts[0] + seconds[0], firsts[4] + seconds[4]))
            self.assertEqual(seen(other, 2), seconds)

    def test_each_goes_on_by_itself(self):
        one, other = came_to(Throng(EVEN), (1,)), came_to(Throng(EVEN), (2,))
        one.pour(other=other)
        other.meet(0, 1)
        self.assertEqual(other.said(), "yes")
        self.assertEqual(seen(one, 1), (3, ["no"] * 3, "no", [3], 3))
        one.meet(1, 2)
        other.come("a")
        self.assertEqual(one.come("a"), [3])
        self.assertEqual(seen(other, 1)[3], [3])

    def test_nobody_is_poured(self):
        throng = came_to(Throng(EVEN), (2,))
        throng.pour(Throng(EVEN))
        self.assertEqual(seen(throng, 1)[3:], ([2], 2))
        empty = Throng(EVEN)
        empty.pour(throng)
        self.assertEqual(empty, throng)

    def test_made_for_another_sentence(self):
        throng = came_to(Throng(EVEN), (2,))
        before = seen(throng, 1)
        for sentence in (("rest", (1,), 2, 1), ("not", EVEN), ("rest", (-1,), 2, 0), ("not", ("not", EVEN)), MORE,
                         ("and", EVEN, EVEN), ("least", (1,), 2)):
            other = came_to(Throng(sentence), (1,))
            with self.assertRaises(NoKin):
                throng.pour(other)
            with self.assertRaises(NoKin):
                other.pour(throng)
            self.assertEqual(seen(throng, 1), before)
            self.assertEqual(len(other), 1)
        throng.pour(came_to(Throng(tuple(["rest", (1,), 2, 0])), (1,)))
        self.assertEqual(len(throng), 3)


class StretchTest(unittest.TestCase):
    def plainly(self, throng, backward):
        pairs = list(itertools.combinations(range(len(throng)), 2))
        for one, other in [pair[::-1] for pair in pairs[::-1]] if backward else pairs:
            throng.meet(one, other)

    def test_each_two_meet_once_in_order(self):
        chance = random.Random(5)
        for _ in range(80):
            throng = came_to(Throng(sentence_of(chance, 3, 3)), [chance.randint(0, 3) for _ in range(3)])
            other = throng.copy()
            for _ in range(4):
                backward = chance.random() < 0.5
                throng.stretch(backward=backward)
                self.plainly(other, backward)
                self.assertEqual(seen(throng, 3), seen(other, 3))
                # Whoever bears what, they all go on alike.
                self.assertEqual(throng.copy().stretch(), other.copy().stretch())

    def test_backward_left_out_is_not_backward(self):
        chance = random.Random(6)
        for _ in range(60):
            throng = came_to(Throng(sentence_of(chance, 2, 2)), (3, 2))
            meet_all(throng, chance)
            other = throng.copy()
            self.assertEqual(throng.stretch(), other.stretch(backward=False))
            self.assertEqual(seen(throng, 2), seen(other, 2))

    def test_how_many_meetings_changed_something(self):
        throng = came_to(Throng(EVEN), (4,))
        self.assertGreaterEqual(throng.stretch(), 3)
        while throng.stretch() > 0:
            pass
        before = seen(throng, 1)
        self.assertEqual((throng.stretch(), throng.stretch(backward=True)), (0, 0))
        self.assertEqual(seen(throng, 1), before)

    def test_of_two(self):
        throng = came_to(Throng(EVEN), (2,))
        self.assertEqual((throng.stretch(), throng.stretch()), (1, 0))
        throng.come("a")
        self.assertEqual(throng.said(), None)
        self.assertTrue(1 <= throng.stretch(backward=True) <= 3)

    def test_no_fewer_than_changed_what_somebody_says(self):
        chance = random.Random(7)
        for _ in range(80):
            throng = came_to(Throng(sentence_of(chance, 2, 3)), (2, 3))
            for _ in range(4):
                other = throng.copy()
                changed = 0
                for one, two in itertools.combinations(range(5), 2):
                    before = seen(other, 2)
                    other.meet(one, two)
                    changed += seen(other, 2) != before
                told = throng.stretch()
                self.assertTrue(changed <= told <= 10)

    def test_where_none_changed_anything_nothing_ever_does(self):
        chance = random.Random(8)
        for _ in range(60):
            throng = came_to(Throng(sentence_of(chance, 2, 3)), (2, 3))
            for _ in range(200):
                if throng.stretch() == 0:
                    break
            self.assertEqual(throng.stretch(), 0)
            before = seen(throng, 2)
            meet_all(throng, chance)
            self.assertEqual(seen(throng, 2), before)

    def test_of_one_and_of_nobody(self):
        self.assertEqual(Throng(EVEN).stretch(), 0)
        self.assertEqual(came_to(Throng(EVEN), (1,)).stretch(backward=True), 0)


class MarkTest(unittest.TestCase):
    def test_back_all_is_as_it_was(self):
        chance = random.Random(9)
        for _ in range(30):
            throng = Throng(sentence_of(chance, 2, 3))
            looks = []
            for number in range(5):
                self.assertEqual(throng.mark(), number)
                looks.append((seen(throng, 2), throng.copy()))
                throng.come(chance.choice("ab"), many=2)
                meet_all(throng, chance)
            for number in (4, 2, 2, 0):
                self.assertIsNone(throng.back(number))
                self.assertEqual(seen(throng, 2), looks[number][0])
                throng.stretch()
                other = looks[number][1].copy()
                other.stretch()
                self.assertEqual(throng, other)
                self.assertEqual(throng.stretch(), other.stretch())

    def test_later_ones_are_forgotten(self):
        throng = came_to(Throng(EVEN), (2,))
        self.assertEqual([throng.mark() for _ in range(4)], [0, 1, 2, 3])
        throng.back(number=1)
        for number in (2, 3, 4, -1, 10 ** 60):
            with self.assertRaises(NoMark) as raised:
                throng.back(number)
            self.assertEqual(raised.exception.number, number)
        throng.back(1)
        self.assertEqual(throng.mark(), 2)

    def test_no_mark_changes_nothing(self):
        throng = came_to(Throng(EVEN), (2,))
        before = seen(throng, 1)
        with self.assertRaises(NoMark):
            throng.back(0)
        self.assertEqual(seen(throng, 1), before)

    def test_copies_are_each_by_itself(self):
        throng = came_to(Throng(EVEN), (2,))
        throng.mark()
        throng.come("a")
        copied = throng.copy()
        self.assertEqual(copied, throng)
        self.assertEqual((copied.mark(), copied.mark(), throng.mark()), (1, 2, 1))
        with self.assertRaises(NoMark):
            throng.back(2)
        before = seen(throng, 1)
        copied.stretch()
        copied.come("a", many=4)
        self.assertEqual(seen(throng, 1), before)
        copied.back(0)
        self.assertEqual(seen(copied, 1)[3], [2])
        middle = seen(copied, 1)
        throng.meet(0, 1)
        throng.pour(came_to(Throng(EVEN), (1,)))
        throng.back(0)
        self.assertEqual(seen(copied, 1), middle)

    def test_a_copy_bears_what_this_one_bears(self):
        chance = random.Random(10)
        for _ in range(40):
            throng = came_to(Throng(sentence_of(chance, 2, 3)), (3, 3))
            meet_all(throng, chance)
            copied = throng.copy()
            for _ in range(3):
                self.assertEqual(copied.stretch(), throng.stretch())
                self.assertEqual(seen(copied, 2), seen(throng, 2))


class EqualTest(unittest.TestCase):
    def test_equal_ones(self):
        self.assertEqual(Throng(MORE), Throng(MORE))
        one, other = came_to(Throng(MORE), (2, 1)), came_to(Throng(MORE), (2, 1))
        self.assertEqual(one, other)
        one.mark()
        self.assertEqual(one, other)

    def test_whatever_they_bear(self):
        # All come with even worths, so what they say never changes.
        even = ("rest", (2,), 2, 0)
        one, other = came_to(Throng(even), (3,)), came_to(Throng(even), (3,))
        one.stretch()
        self.assertEqual(one, other)

    def test_other_ones(self):
        one = came_to(Throng(MORE), (2, 1))
        self.assertNotEqual(one, came_to(Throng(MORE), (1, 2)))
        self.assertNotEqual(one, came_to(Throng(MORE), (2, 2)))
        self.assertNotEqual(one, came_to(Throng(("not", ("not", MORE))), (2, 1)))
        self.assertNotEqual(Throng(MORE), Throng(EVEN))
        backward = Throng(MORE)
        backward.come("b")
        backward.come("a", many=2)
        self.assertEqual(backward.came(), one.came())
        self.assertNotEqual(one, backward)
        alike = ("least", (1, 1), 1)
        self.assertNotEqual(came_to(Throng(alike), (2, 1)), came_to(Throng(alike), (1, 2)))
        met = came_to(Throng(EVEN), (2,))
        met.stretch()
        self.assertNotEqual(met, came_to(Throng(EVEN), (2,)))

    def test_nothing_else(self):
        throng = came_to(Throng(MORE), (2, 1))
        for thing in (None, 3, "yes", MORE, [], [throng], True):
            self.assertFalse(throng == thing)
            self.assertTrue(throng != thing)
        self.assertEqual([Throng(EVEN), throng].index(came_to(Throng(MORE), (2, 1))), 1)


class PromiseTest(unittest.TestCase):
    """After so many rows of meetings all say whether it is so, and go on saying it."""

    def assert_comes_to_say(self, throng, sentence, chance, gates):
        counts = [throng.came(word) for word in GATES[:gates]]
        word = word_of(is_plainly_so(sentence, counts))
        for _ in range(rows_for(sentence, len(throng))):
            meet_all(throng, chance)
        for _ in range(3):
            self.assertEqual(throng.said(), word, (sentence, counts))
            meet_all(throng, chance)

    def history(self, throng, sentence, chance, gates):
        """Whatever may be before, with at least one who came."""
        marks = 0
        for _ in range(12):
            deed = chance.choice(["come", "come", "meet", "stretch", "pour", "mark", "back"])
            if deed == "come" and len(throng) < 6:
                throng.come(chance.choice(GATES[:gates]), many=chance.randint(1, 2))
            if deed == "meet" and len(throng) > 1:
                throng.meet(*chance.sample(range(len(throng)), 2))
            if deed == "stretch":
                throng.stretch(backward=chance.random() < 0.5)
            if deed == "pour" and len(throng) < 5:
                other = Throng(sentence)
                other.come(chance.choice(GATES[:gates]), many=2)
                other.stretch()
                throng.pour(other)
            if deed == "mark":
                marks = throng.mark() + 1
            if deed == "back" and marks:
                marks = chance.randrange(marks) + 1
                throng.back(marks - 1)
        throng.come(chance.choice(GATES[:gates]))

    def test_whatever_was_before(self):
        chance = random.Random(11)
        for _ in range(120):
            gates = chance.randint(1, 3)
            sentence = sentence_of(chance, gates, chance.randint(0, 5))
            if len(leaves_of(sentence)) <= MOST_PARTS:
                throng = Throng(sentence)
                self.history(throng, sentence, chance, gates)
                self.assert_comes_to_say(throng, sentence, chance, gates)

    def test_rests_after_two_rows(self):
        chance = random.Random(12)
        for _ in range(150):
            sentence = ("rest", tuple(chance.randint(-3, 3) for _ in range(2)), 5, chance.randrange(5))
            sentence = chance.choice([sentence, ("not", sentence), ("or", sentence, ("rest", (1, 1), 2, 0))])
            throng = came_to(Throng(sentence), (chance.randint(0, 5), chance.randint(1, 5)))
            self.assertEqual(rows_for(sentence, len(throng)), 2)
            self.history(throng, sentence, chance, 2) if chance.random() < 0.5 else None
            self.assert_comes_to_say(throng, sentence, chance, 2)

    def test_leasts_of_two(self):
        chance = random.Random(13)
        for _ in range(300):
            sentence = leaf_of(chance, 2)
            throng = came_to(Throng(sentence), (chance.randint(0, 2), chance.randint(0, 2)))
            if len(throng) > 0:
                self.assert_comes_to_say(throng, sentence, chance, 2)

    def test_by_stretches(self):
        chance = random.Random(14)
        for _ in range(60):
            sentence = sentence_of(chance, 2, 2)
            throng = came_to(Throng(sentence), (chance.randint(1, 9), chance.randint(0, 9)))
            for _ in range(rows_for(sentence, len(throng))):
                throng.stretch(backward=chance.random() < 0.5)
            word = word_of(is_plainly_so(sentence, (throng.came("a"), throng.came("b"))))
            self.assertEqual(throng.said(), word)
            self.assertEqual(throng.stretch(), 0)

    def test_told_sentences(self):
        chance = random.Random(15)
        many = 0
        for _ in range(120):
            sentence = plainly((chance.choice(["some", "all"]), sentence_of(chance, 3, 2)))
            if 2 <= len(leaves_of(sentence)) <= MOST_PARTS:
                throng = came_to(Throng(sentence), (chance.randint(1, 2), chance.randint(0, 2)))
                self.assert_comes_to_say(throng, sentence, chance, 2)
                many += 1
        self.assertGreater(many, 10)

    def test_great_numbers(self):
        for sentence, counts, word in (
            (("least", (10 ** 40, -(10 ** 40)), 1), (3, 2), "yes"), (("least", (1, 0), 10 ** 40), (3, 2), "no"),
            (("least", (10 ** 40, -(10 ** 40)), 1), (2, 2), "no"),
            (("rest", (10 ** 40, 1), 10 ** 50, 2), (0, 2), "yes"),
        ):
            throng = came_to(Throng(sentence), counts)
            for _ in range(20):
                throng.stretch()
            self.assertEqual(throng.said(), word)

    def test_twelve_leasts_and_rests_within_many_others(self):
        sentence = ("least", (1, -1), 0)
        for number in range(11):
            leaf = ("rest", (1, 2), 2 + number % 4, 1) if number % 2 else ("least", (-1, 2), number % 4)
            sentence = (("and", "or")[number % 2], sentence, leaf)
        self.assertEqual(len(leaves_of(sentence)), MOST_PARTS)
        for counts in ((3, 4), (5, 1), (1, 0)):
            deep = sentence
            for _ in range(280):
                deep = ("not", deep)
            throng = came_to(Throng(deep), counts)
            while throng.stretch():
                pass
            self.assertEqual(throng.said(), word_of(is_plainly_so(sentence, counts)))

    def test_three_hundred_folk_are_soon_answered(self):
        sentence = ("least", (1, -1, 2), 3)
        for number in range(11):
            sentence = ("or", sentence, leaf_of(random.Random(number), 3))
        throng = Throng(sentence)
        begun = time.process_time()
        for word in "abcabc":
            throng.come(word, many=50)
        for backward in (False, True):
            throng.stretch(backward=backward)
        throng.said()
        self.assertEqual(len(throng), 300)
        self.assertLess(time.process_time() - begun, 10)


if __name__ == "__main__":
    unittest.main()
