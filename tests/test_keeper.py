"""Crowds that go on (points 2, 3, 7, 8, 10, 21 and 22)."""

import itertools
import os
import random
import sys
import time
import unittest

sys.path.insert(0, os.path.dirname(os.path.abspath(__file__)))

from plain import is_plainly_so, sentences, word_of

from crowdsay.choosing import chosen
from crowdsay.customs import Custom
from crowdsay.errors import NoBody, NoGate, NoMark, NoMeeting, NoSay, NoTurn, TooMany
from crowdsay.keeper import Keeper
from crowdsay.made import made_for
from crowdsay.meetings import behind, can_be_done
from crowdsay.papers import paper
from crowdsay.rounds import says, sure

ODD = Custom(
    ("odd", "even", "n", "y"),
    (
        ("odd", "odd", "even", "n"), ("odd", "even", "odd", "y"), ("odd", "n", "odd", "y"),
        ("even", "even", "even", "n"), ("even", "y", "even", "n"),
    ),
    (("in", "odd"), ("out", "even")),
    yes=("odd", "y"),
)
# It goes on for ever.
SWING = Custom(("z", "m"), (("z", "z", "z", "m"), ("z", "m", "z", "z")), (("in", "z"), ("out", "m")), yes=("z",))
ALIKE = Custom(("z", "m"), (), (("in", "z"), ("out", "z")), yes=("z",))


class Broken(Exception):
    """What a chooser raises."""


def kept(custom=ODD, counts=(3, 1), **choose):
    keeper = Keeper(custom, **choose)
    for (word, _), many in zip(custom.gates, counts):
        if many:
            keeper.come(word, many=many)
    return keeper


def seen(keeper):
    """All that a keeper tells."""
    gates = [word for word, _ in keeper.custom.gates]
    return (
        keeper.custom, keeper.crowd(), [keeper.came(word) for word in gates], keeper.came(), len(keeper), str(keeper),
        repr(keeper),
    )


class ComeTest(unittest.TestCase):
    def test_is_defined_in_this_file(self):
        self.assertEqual(Keeper.__module__, "crowdsay.keeper")
        for name in ("come", "meet", "crowd", "came", "go", "settle", "mark", "back", "copy"):
            self.assertIn(name, vars(Keeper))

    def test_it_begins_with_nobody(self):
        keeper = Keeper(ODD)
        self.assertIs(keeper.custom, ODD)
        self.assertEqual(seen(keeper), (ODD, (0, 0, 0, 0), [0, 0], 0, 0, "0,0,0,0", "0,0,0,0"))
        self.assertEqual(Keeper(custom=ODD, choose="last").crowd(), (0, 0, 0, 0))

    def test_one_and_many_by_each_gate(self):
        keeper = Keeper(ODD)
        self.assertIsNone(keeper.come("in"))
        self.assertEqual(keeper.crowd(), (1, 0, 0, 0))
        self.assertIsNone(keeper.come("out", many=50))
        keeper.come(gate="in", many=3)
        self.assertEqual(seen(keeper), (ODD, (4, 50, 0, 0), [4, 50], 54, 0, "4,50,0,0", "4,50,0,0"))
        self.assertEqual((keeper.came("in"), keeper.came(gate="out"), keeper.came(gate=None)), (4, 50, 54))

    def test_gates_of_one_kind(self):
        keeper = kept(ALIKE, (2, 5))
        self.assertEqual(keeper.crowd(), (7, 0))
        self.assertEqual((keeper.came("in"), keeper.came("out"), keeper.came()), (2, 5, 7))

    def test_of_no_gates_word(self):
        keeper = kept()
        before = seen(keeper)
        for word in ("inn", "odd", "", "In", "in "):
            with self.assertRaises(NoGate) as raised:
                keeper.come(word)
            self.assertEqual(raised.exception.word, word)
            with self.assertRaises(NoGate) as raised:
                keeper.come(word, many=7)
            with self.assertRaises(NoGate) as raised:
                keeper.came(word)
            self.assertEqual(raised.exception.word, word)
            self.assertEqual(seen(keeper), before)

    def test_who_comes_by_which_gate_stays_so_whatever_they_meet(self):
        keeper = kept()
        keeper.go()
        keeper.come("in", many=2)
        keeper.go()
        self.assertEqual([keeper.came("in"), keeper.came("out"), keeper.came()], [5, 1, 6])


class MeetTest(unittest.TestCase):
    def test_rows_one_behind_the_other(self):
        keeper = kept()
        self.assertIsNone(keeper.meet([0, 3, 1]))
        self.assertEqual((keeper.crowd(), len(keeper)), ((1, 0, 2, 1), 3))
        keeper.meet(numbers=[2])
        self.assertEqual((keeper.crowd(), len(keeper)), ((1, 0, 1, 2), 4))

    def test_no_rows(self):
        keeper = Keeper(ODD)
        keeper.meet([])
        self.assertEqual((keeper.crowd(), len(keeper)), ((0, 0, 0, 0), 0))

    def test_all_or_none(self):
        keeper = kept()
        keeper.meet([0])
        before = seen(keeper)
        for numbers, place in (([0], 0), ([1, 1, 1, 1], 2), ([5], 0), ([-1], 0), ([3, -5], 1), ([1, 10 ** 60], 1),
                               ([3, 1, 2, 2, 0, 1], 4), ([4], 0)):
            with self.assertRaises(NoMeeting) as raised:
                keeper.meet(numbers)
            self.assertEqual(raised.exception.place, place)
            self.assertEqual(seen(keeper), before)

    def test_of_nobody(self):
        with self.assertRaises(NoMeeting) as raised:
            Keeper(ODD).meet([0])
        self.assertEqual(raised.exception.place, 0)

    def test_what_is_handed_in_stays(self):
        numbers = [0, 3, 1]
        kept().meet(numbers)
        self.assertEqual(numbers, [0, 3, 1])


class GoTest(unittest.TestCase):
    def plainly_gone(self, custom, crowd, choose, most):
        done = []
        while len(done) < most and can_be_done(custom, crowd):
            done.append(choose(crowd, can_be_done(custom, crowd)))
            crowd = behind(custom, crowd, done[-1])
        return done, crowd

    def test_by_each_word(self):
        for word in ("least", "last", "even"):
            for custom, counts in ((ODD, (5, 2)), (SWING, (4, 1)), (ODD, (0, 6)), (ODD, (1, 0))):
                keeper = kept(custom, counts, choose=word)
                crowd = keeper.crowd()
                for most in (0, 1, 7, 30):
                    done, crowd = self.plainly_gone(custom, crowd, lambda *asked: chosen(word, *asked), most)
                    self.assertEqual(keeper.go(most=most), done)
                    self.assertEqual(keeper.crowd(), crowd)

    def test_the_chooser_left_out_is_least(self):
        for counts in ((5, 2), (9, 0)):
            self.assertEqual(kept(counts=counts).go(), kept(counts=counts, choose="least").go())
        self.assertNotEqual(kept(counts=(9, 0)).go(), kept(counts=(9, 0), choose="last").go())

    def test_till_none_can_be_done(self):
        keeper = kept()
        done = keeper.go()
        self.assertEqual(can_be_done(ODD, keeper.crowd()), [])
        self.assertEqual(len(keeper), len(done))
        self.assertEqual(keeper.go(), [])
        self.assertEqual(keeper.go(most=1000), [])
        self.assertEqual(Keeper(ODD).go(), [])

    def test_so_many(self):
        self.assertEqual(len(kept(SWING).go()), 100)
        for most in (0, 1, 5, 1000):
            keeper = kept(SWING)
            self.assertEqual(len(keeper.go(most=most)), most)
            self.assertEqual(len(keeper), most)

    def test_what_a_def_is_asked(self):
        asked = []

        def choose(crowd, numbers):
            asked.append((crowd, list(numbers)))
            return numbers[-1]

        keeper = kept(choose=choose)
        crowd = keeper.crowd()
        for number in keeper.go():
            self.assertEqual(asked.pop(0), (crowd, can_be_done(ODD, crowd)))
            crowd = behind(ODD, crowd, number)
        self.assertEqual(asked, [])
        self.assertEqual(keeper.crowd(), crowd)

    def test_nobody_is_asked_where_nothing_is_to_be_done(self):
        def choose(crowd, numbers):
            raise Broken

        self.assertEqual(kept(choose=choose).go(most=0), [])
        self.assertEqual(kept(counts=(1, 0), choose=choose).go(), [])
        self.assertEqual(Keeper(ODD, choose=choose).go(), [])

    def test_told_lists_are_the_askers_own(self):
        told = []

        def choose(crowd, numbers):
            told.append(numbers)
            number = numbers[0]
            numbers.clear()
            numbers.append(77)
            return number

        keeper, other = kept(choose=choose), kept()
        done = keeper.go(most=3)
        self.assertEqual(done, other.go(most=3))
        done.clear()
        self.assertEqual(seen(keeper), seen(other))
        self.assertEqual(told, [[77]] * 3)

    def test_a_chooser_that_empties_its_list_may_not_choose_from_it(self):
        def choose(crowd, numbers):
            numbers.append(4)
            return 4

        with self.assertRaises(NoMeeting):
            kept(counts=(2, 0), choose=choose).go()

    def test_a_number_that_is_not_among_them(self):
        for wrong in (-1, 5, 99, 4, 10 ** 60, None, True, "0"):
            answers = [0, 3, wrong]
            keeper = kept(choose=lambda crowd, numbers: answers.pop(0))
            with self.assertRaises(NoMeeting) as raised:
                keeper.go()
            self.assertEqual(raised.exception.place, 2)
            other = kept()
            other.meet([0, 3])
            self.assertEqual(seen(keeper), seen(other))
            answers.extend([1, 2])
            self.assertEqual(keeper.go(most=2), [1, 2])

    def test_the_field_is_how_many_rows_this_go_did(self):
        answers = [0, 9]
        keeper = kept(choose=lambda crowd, numbers: answers.pop(0))
        self.assertEqual(keeper.go(most=1), [0])
        with self.assertRaises(NoMeeting) as raised:
            keeper.go()
        self.assertEqual((raised.exception.place, len(keeper)), (0, 1))

    def test_whatever_it_raises_goes_on(self):
        for error in (Broken, NoTurn, NoMeeting, KeyError, StopIteration, ValueError, KeyboardInterrupt):
            raised_by = []

            def choose(crowd, numbers):
                if crowd[0] < 3:
                    raised_by.append(error(7))
                    raise raised_by[-1]
                return numbers[0]

            keeper = kept(choose=choose)
            with self.assertRaises(error) as raised:
                keeper.go()
            self.assertIs(raised.exception, raised_by[0])
            self.assertEqual((keeper.crowd(), len(keeper)), ((1, 2, 1, 0), 1))
            keeper.come("in", many=5)
            self.assertEqual(keeper.came(), 9)
            keeper.meet([0])
            self.assertEqual(keeper.mark(), 0)

    def test_while_it_goes_on_it_is_shut(self):
        refused = []
        looks = []

        def choose(crowd, numbers):
            for ask in (
                lambda: keeper.come("in"), lambda: keeper.come("nowhere"), lambda: keeper.meet([0]),
                lambda: keeper.meet([99]), lambda: keeper.go(), lambda: keeper.go(most=0), lambda: keeper.settle(),
                lambda: keeper.mark(), lambda: keeper.back(0), lambda: keeper.back(99), lambda: keeper.copy(),
            ):
                try:
                    ask()
                except NoTurn as error:
                    refused.append(type(error))
            looks.append((seen(keeper), keeper == keeper, keeper == other, [keeper].index(keeper)))
            self.assertEqual((keeper.crowd(), keeper.came("in"), keeper.came()), (crowd, 3, 4))
            with self.assertRaises(NoGate):
                keeper.came("nowhere")
            return numbers[0]

        keeper, other = kept(choose=choose), kept()
        keeper.mark()
        done = keeper.go(most=4)
        self.assertEqual(len(refused), 11 * 4)
        self.assertEqual([look[0][4] for look in looks], [0, 1, 2, 3])
        self.assertEqual([look[1:] for look in looks], [(True, True, 0)] + [(True, False, 0)] * 3)
        self.assertEqual(done, other.go(most=4))
        self.assertEqual(seen(keeper), seen(other))
        self.assertEqual(keeper.mark(), 1)

    def test_settling_of_nobody_is_no_turn_while_it_goes_on(self):
        wrong = []

        def choose(crowd, numbers):
            try:
                keeper.settle()
            except NoTurn:
                wrong.append(1)
            return numbers[0]

        keeper = kept(SWING, choose=choose)
        keeper.go(most=2)
        self.assertEqual(wrong, [1, 1])

    def test_other_keepers_are_open_meanwhile(self):
        def choose(crowd, numbers):
            other.come("in")
            other.go(most=1)
            copies[-1].come("out")
            return numbers[0]

        other = kept()
        keeper = kept(choose=choose)
        copies = [keeper.copy()]
        keeper.go(most=2)
        self.assertEqual((other.came("in"), len(other)), (5, 2))
        self.assertEqual((copies[0].came("out"), keeper.came("out")), (3, 1))


class SettleTest(unittest.TestCase):
    def test_each_row_is_the_least_one_to_a_lesser_rank(self):
        for counts in ((1, 0), (3, 1), (2, 4), (0, 5), (6, 0)):
            keeper = kept(counts=counts)
            crowd = keeper.crowd()
            ranks = paper(ODD, crowd)[1]
            done = keeper.settle()
            for number in done:
                self.assertEqual(
                    number,
                    [one for one in can_be_done(ODD, crowd) if ranks[behind(ODD, crowd, one)] < ranks[crowd]][0],
                )
                crowd = behind(ODD, crowd, number)
            self.assertEqual(ranks[crowd], 0)
            self.assertEqual((keeper.crowd(), len(keeper)), (crowd, len(done)))
            self.assertEqual(sure(ODD, keeper.crowd()), word_of(counts[0] % 2 == 1))

    def test_of_customs_of_all_sorts(self):
        chance = random.Random(26)
        many = 0
        for _ in range(400):
            kinds = ("x", "y", "z")
            rows = []
            for two in itertools.combinations_with_replacement(range(3), 2):
                ends = tuple(sorted([chance.randrange(3), chance.randrange(3)]))
                if ends != two and chance.random() < 0.8:
                    rows.append(tuple(kinds[place] for place in two + ends))
            custom = Custom(kinds, tuple(rows), (("in", "x"), ("out", "y")), yes=chance.choice([("x",), ("y", "z")]))
            keeper = kept(custom, (4, 2))
            crowd = keeper.crowd()
            word, ranks = paper(custom, crowd)
            if word == "split":
                continue
            for number in keeper.settle():
                lesser = [
                    one for one in can_be_done(custom, crowd) if ranks[behind(custom, crowd, one)] < ranks[crowd]
                ]
                self.assertEqual(number, lesser[0])
                many += number != can_be_done(custom, crowd)[0]
                crowd = behind(custom, crowd, number)
            self.assertEqual((keeper.crowd(), ranks[crowd]), (crowd, 0))
        self.assertGreater(many, 20)

    def test_settled_again(self):
        keeper = kept()
        self.assertNotEqual(keeper.settle(), [])
        self.assertEqual(keeper.settle(), [])

    def test_whatever_the_chooser_is(self):
        def choose(crowd, numbers):
            raise Broken

        self.assertEqual(kept(choose=choose).settle(), kept(choose="last").settle())

    def test_of_nobody(self):
        keeper = Keeper(SWING)
        with self.assertRaises(NoBody):
            keeper.settle()
        self.assertEqual(seen(keeper), seen(Keeper(SWING)))

    def test_of_too_many_crowds(self):
        keeper = kept(counts=(50, 50))
        keeper.go(most=7)
        before = seen(keeper)
        with self.assertRaises(TooMany) as raised:
            keeper.settle()
        self.assertEqual(raised.exception.most, 400)
        self.assertEqual(seen(keeper), before)

    def test_of_a_split_crowd(self):
        keeper = kept(SWING, (3, 0))
        keeper.go(most=1)
        before = seen(keeper)
        with self.assertRaises(NoSay):
            keeper.settle()
        self.assertEqual(seen(keeper), before)

    def test_too_many_ahead_of_split(self):
        # However many come, each round of it has all crowds of some z and m, so it is split.
        keeper = kept(SWING, (0, 0))
        for _ in range(9):
            keeper.come("in", many=50)
        with self.assertRaises(TooMany) as raised:
            keeper.settle()
        self.assertEqual(raised.exception.most, 400)
        few = kept(SWING, (5, 5))
        with self.assertRaises(NoSay):
            few.settle()


class MarkTest(unittest.TestCase):
    def test_numbers_from_nought_on(self):
        keeper = kept()
        self.assertEqual([keeper.mark() for _ in range(4)], [0, 1, 2, 3])

    def test_back_all_is_as_it_was(self):
        keeper = Keeper(ODD, choose="last")
        looks = []
        for many in range(5):
            self.assertEqual(keeper.mark(), many)
            looks.append(seen(keeper))
            keeper.come(("in", "out")[many % 2], many=many + 1)
            keeper.go(most=many)
        for number in (4, 4, 2, 2, 0, 0):
            self.assertIsNone(keeper.back(number))
            self.assertEqual(seen(keeper), looks[number])
            keeper.come("in", many=9)
            keeper.go(most=7)

    def test_back_by_name(self):
        keeper = kept()
        keeper.mark()
        keeper.go()
        keeper.back(number=0)
        self.assertEqual(seen(keeper), seen(kept()))

    def test_what_it_does_behind_a_mark_is_done_again(self):
        keeper = kept(choose="even")
        keeper.mark()
        done = keeper.go()
        keeper.back(0)
        self.assertEqual(keeper.go(), done)

    def test_it_stays_and_the_later_ones_are_forgotten(self):
        keeper = kept()
        for _ in range(5):
            keeper.mark()
            keeper.go(most=1)
        keeper.back(2)
        for number in (3, 4, 5):
            with self.assertRaises(NoMark) as raised:
                keeper.back(number)
            self.assertEqual(raised.exception.number, number)
        keeper.back(2)
        self.assertEqual(keeper.mark(), 3)
        keeper.back(3)
        keeper.back(0)
        self.assertEqual([keeper.mark(), keeper.mark()], [1, 2])

    def test_no_mark(self):
        keeper = kept()
        before = seen(keeper)
        for number in (0, 1, -1, 10 ** 60):
            with self.assertRaises(NoMark) as raised:
                keeper.back(number)
            self.assertEqual(raised.exception.number, number)
        self.assertEqual(keeper.mark(), 0)
        for number in (1, -1):
            with self.assertRaises(NoMark):
                keeper.back(number)
        self.assertEqual(seen(keeper), before)


class CopyTest(unittest.TestCase):
    def test_it_is_now_as_this_one(self):
        keeper = kept(choose="last")
        keeper.mark()
        keeper.go(most=2)
        copied = keeper.copy()
        self.assertIsNot(copied, keeper)
        self.assertEqual(copied, keeper)
        self.assertEqual(seen(copied), seen(keeper))
        self.assertIs(copied.custom, keeper.custom)
        self.assertEqual(copied.go(), keeper.go())

    def test_its_chooser_too(self):
        asked = []

        def choose(crowd, numbers):
            asked.append(crowd)
            return numbers[-1]

        copied = kept(choose=choose).copy()
        self.assertEqual(len(copied.go()), len(asked))
        self.assertNotEqual(asked, [])

    def test_its_marks_too_and_each_by_itself(self):
        keeper = kept()
        keeper.mark()
        keeper.go(most=1)
        keeper.mark()
        copied = keeper.copy()
        self.assertEqual((copied.mark(), keeper.mark()), (2, 2))
        self.assertEqual(copied.mark(), 3)
        with self.assertRaises(NoMark):
            keeper.back(3)
        copied.back(0)
        self.assertEqual(copied, kept())
        keeper.back(1)
        self.assertEqual(len(keeper), 1)
        with self.assertRaises(NoMark):
            copied.back(1)
        self.assertEqual(copied.mark(), 1)

    def test_what_is_done_to_one_changes_nothing_of_the_other(self):
        keeper = kept()
        keeper.mark()
        copied = keeper.copy()
        before = seen(keeper)
        copied.come("in", many=4)
        copied.go(most=5)
        copied.settle()
        self.assertEqual(seen(keeper), before)
        middle = seen(copied)
        keeper.come("out")
        keeper.meet([0])
        keeper.back(0)
        keeper.mark()
        self.assertEqual(seen(copied), middle)

    def test_a_copy_of_a_copy(self):
        keeper = kept()
        keeper.mark()
        twice = keeper.copy().copy()
        keeper.go()
        twice.come("in")
        twice.back(0)
        self.assertEqual(twice, kept())


class EqualTest(unittest.TestCase):
    def test_equal_ones(self):
        self.assertEqual(kept(), kept())
        self.assertEqual(kept(choose="last"), kept(choose=lambda crowd, numbers: numbers[0]))
        marked = kept()
        marked.mark()
        self.assertEqual(marked, kept())
        again = Custom(ODD.kinds, ODD.rows, ODD.gates, yes=ODD.yes)
        self.assertEqual(kept(again), kept())

    def test_other_ones(self):
        keeper = kept()
        self.assertNotEqual(keeper, kept(counts=(3, 2)))
        self.assertNotEqual(kept(ALIKE, (2, 1)), kept(ALIKE, (1, 2)))
        self.assertNotEqual(kept(ALIKE, (1, 1)), kept(Custom(("z", "m"), (), ALIKE.gates, yes=("m",)), (1, 1)))
        swing, other = kept(SWING, (3, 0)), kept(SWING, (3, 0))
        swing.meet([0, 1])
        self.assertEqual(swing.crowd(), other.crowd())
        self.assertNotEqual(swing, other)
        other.meet([0])
        self.assertNotEqual(swing, other)
        other.meet([1])
        self.assertEqual(swing, other)

    def test_nothing_else(self):
        keeper = kept()
        for thing in (None, 0, 4, "3,1,0,0", (3, 1, 0, 0), [], ODD, {}, True):
            self.assertFalse(keeper == thing)
            self.assertTrue(keeper != thing)

    def test_among_others_in_a_list(self):
        keepers = [kept(), kept(SWING), kept(counts=(1, 1))]
        self.assertEqual(keepers.index(kept(SWING)), 1)
        self.assertIn(kept(counts=(1, 1)), keepers)
        self.assertNotIn(kept(counts=(2, 1)), keepers)
        self.assertEqual(repr(keepers), "[3,1,0,0, 3,1, 1,1,0,0]")
        self.assertEqual(keepers, [keeper.copy() for keeper in keepers])

    def test_length_and_texts(self):
        keeper = kept()
        self.assertEqual((len(keeper), str(keeper), repr(keeper)), (0, "3,1,0,0", "3,1,0,0"))
        keeper.meet([0, 1])
        keeper.go(most=1)
        keeper.settle()
        self.assertEqual(len(keeper), 3 + len(kept_behind(3).settle()))
        self.assertEqual(str(keeper), ",".join(map(str, keeper.crowd())))


def kept_behind(many):
    keeper = kept()
    keeper.meet([0, 1])
    keeper.go(most=many - 2)
    return keeper


class WholeTest(unittest.TestCase):
    def test_after_all_deeds_it_is_what_they_make_of_it(self):
        chance = random.Random(22)
        for _ in range(60):
            keeper = Keeper(ODD, choose=chance.choice(["least", "last", "even"]))
            counts, came, done, marks = [0, 0, 0, 0], [0, 0], 0, []
            for _ in range(40):
                deed = chance.choice(["come", "meet", "wrong", "mark", "back", "go", "copy"])
                if deed == "come":
                    gate, many = chance.randrange(2), chance.randint(1, 3)
                    keeper.come(("in", "out")[gate], many=many)
                    counts[gate] += many
                    came[gate] += many
                if deed == "meet" and can_be_done(ODD, tuple(counts)):
                    number = chance.choice(can_be_done(ODD, tuple(counts)))
                    keeper.meet([number])
                    counts = list(behind(ODD, tuple(counts), number))
                    done += 1
                if deed == "wrong":
                    with self.assertRaises(NoMeeting):
                        keeper.meet([*can_be_done(ODD, tuple(counts))[:1], 9])
                    with self.assertRaises(NoMark):
                        keeper.back(len(marks))
                if deed == "mark":
                    self.assertEqual(keeper.mark(), len(marks))
                    marks.append((list(counts), list(came), done))
                if deed == "back" and marks:
                    number = chance.randrange(len(marks))
                    keeper.back(number)
                    del marks[number + 1:]
                    counts, came, done = list(marks[number][0]), list(marks[number][1]), marks[number][2]
                if deed == "go":
                    for number in keeper.go(most=2):
                        counts = list(behind(ODD, tuple(counts), number))
                        done += 1
                if deed == "copy":
                    other = keeper.copy()
                    other.come("in", many=50)
                    other.go()
                self.assertEqual((keeper.crowd(), len(keeper)), (tuple(counts), done))
                self.assertEqual([keeper.came("in"), keeper.came("out"), keeper.came()], [*came, sum(came)])

    def test_customs_made_come_to_say_it_where_all_may_be_chosen(self):
        chance = random.Random(23)
        many = 0
        for sentence in sentences(24, 120):
            try:
                custom = made_for(sentence)
            except TooMany:
                continue
            keeper = Keeper(custom, choose=lambda crowd, numbers: chance.choice(numbers))
            for _ in range(3):
                for word, _ in custom.gates:
                    keeper.come(word, many=chance.randint(1, 4))
                keeper.go(most=3)
            keeper.go(most=1000)
            self.assertEqual(can_be_done(custom, keeper.crowd()), [])
            counts = [keeper.came(word) for word, _ in custom.gates]
            self.assertEqual(says(custom, keeper.crowd()), word_of(is_plainly_so(sentence, counts)))
            many += 1
        self.assertGreater(many, 70)

    def test_whoever_chose_customs_made_are_settled_to_say_it(self):
        chance = random.Random(24)
        many = 0
        for sentence in sentences(25, 250):
            try:
                custom = made_for(sentence)
            except TooMany:
                continue
            keeper = Keeper(custom, choose=chance.choice(["least", "last", "even"]))
            for _ in range(3):
                keeper.come(chance.choice(custom.gates)[0], many=chance.randint(1, 2))
                keeper.go(most=2)
            try:
                keeper.settle()
            except TooMany:
                continue
            counts = [keeper.came(word) for word, _ in custom.gates]
            self.assertEqual(sure(custom, keeper.crowd()), word_of(is_plainly_so(sentence, counts)))
            many += 1
        self.assertGreater(many, 120)

    def test_two_thousand_folk_are_soon_kept(self):
        custom = made_for(("and", ("rest", (1, 1, 1), 5, 0), ("rest", (1, 2, 1), 4, 0)))
        keeper = Keeper(custom, choose="even")
        begun = time.process_time()
        for number in range(40):
            keeper.come("abc"[number % 3], many=50)
        self.assertEqual(len(keeper.go(most=1000)), 1000)
        keeper.meet([can_be_done(custom, keeper.crowd())[0]])
        self.assertEqual(len(keeper), 1001)
        self.assertEqual(sum(keeper.crowd()), 2000)
        self.assertLess(time.process_time() - begun, 5)


if __name__ == "__main__":
    unittest.main()
