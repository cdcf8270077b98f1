"""Customs turned and joined (points 5 and 17)."""

import itertools
import os
import random
import sys
import unittest

sys.path.insert(0, os.path.dirname(os.path.abspath(__file__)))

from plain import counts_up_to, crowd_by, sentences

from crowdsay.customs import Custom
from crowdsay.errors import TooMany
from crowdsay.joined import joined, turned
from crowdsay.made import made_for
from crowdsay.rounds import says

LOUD = Custom(
    ("quiet", "loud"), (("quiet", "loud", "loud", "loud"),), (("in", "quiet"), ("out", "loud")), yes=("loud",)
)
# It goes on for ever, but all say yes wherever it is.
SWING = Custom(("z", "m"), (("z", "z", "z", "m"), ("z", "m", "z", "z")), (("p", "z"), ("q", "m")), yes=("z", "m"))
STILL = Custom(("x", "y"), (), (("p", "x"), ("q", "x")), yes=("x",))
STILL_ONE = Custom(("x", "y"), (), (("p", "x"),), yes=("x",))


def custom_of(chance, many, words):
    kinds = tuple("abcdefgh"[:many])
    rows = []
    for two in itertools.combinations_with_replacement(range(many), 2):
        ends = tuple(sorted([chance.randrange(many), chance.randrange(many)]))
        if ends != two and chance.random() < 0.6:
            rows.append(tuple(kinds[place] for place in two + ends))
    gates = tuple((word, chance.choice(kinds)) for word in words)
    return Custom(kinds, tuple(rows), gates, yes=tuple(kind for kind in kinds if chance.random() < 0.5))


def four_of(custom):
    return custom.kinds, custom.rows, custom.gates, custom.yes


def chain_of(many):
    """A custom of so many kinds that all come: two of one kind make one of the next."""
    kinds = tuple("k" + chr(97 + place // 26) + chr(97 + place % 26) for place in range(many))
    rows = tuple((one, one, one, other) for one, other in zip(kinds, kinds[1:]))
    return Custom(kinds, rows, (("in", kinds[0]),), yes=kinds, most=many)


class TurnedTest(unittest.TestCase):
    def test_all_is_defined_in_this_file(self):
        for thing in (turned, joined):
            self.assertEqual(thing.__module__, "crowdsay.joined")

    def test_all_that_said_no_say_yes(self):
        self.assertEqual(turned(LOUD), Custom(LOUD.kinds, LOUD.rows, LOUD.gates, yes=("quiet",)))
        self.assertEqual(turned(custom=SWING), Custom(SWING.kinds, SWING.rows, SWING.gates))
        self.assertEqual(turned(turned(SWING)).yes, ("z", "m"))

    def test_they_stand_in_order(self):
        kinds = ("e", "d", "c", "b", "a")
        self.assertEqual(turned(Custom(kinds, (), (("in", "c"),), yes=("d", "b"))).yes, ("e", "c", "a"))

    def test_turned_twice_it_is_as_it_was(self):
        chance = random.Random(1)
        for _ in range(200):
            custom = custom_of(chance, chance.randint(2, 6), ("in",))
            self.assertEqual(turned(turned(custom)), custom)
            self.assertEqual(four_of(turned(custom))[:3], four_of(custom)[:3])
            self.assertEqual(sorted(turned(custom).yes + custom.yes), sorted(custom.kinds))

    def test_customs_of_sixty_kinds(self):
        self.assertEqual(turned(chain_of(60)).yes, ())
        self.assertEqual(turned(turned(chain_of(60))), chain_of(60))

    def test_what_is_handed_in_stays(self):
        custom = Custom(LOUD.kinds, LOUD.rows, LOUD.gates, yes=LOUD.yes)
        turned(custom)
        self.assertEqual(custom, LOUD)

    def test_crowds_say_the_other_word(self):
        chance = random.Random(2)
        others = {"yes": "no", "no": "yes", "split": "split"}
        for _ in range(150):
            custom = custom_of(chance, 3, ("in", "out"))
            for counts in counts_up_to(2, 4):
                crowd = crowd_by(custom, counts)
                self.assertEqual(says(turned(custom), crowd), others[says(custom, crowd)])


class JoinedTest(unittest.TestCase):
    def assert_says_joined(self, custom, other, word, most_folk):
        """Tell how many crowds say it."""
        whole = joined(custom, other, word=word)
        self.assertEqual([gate for gate, _ in whole.gates], [gate for gate, _ in custom.gates])
        self.assertLessEqual(len(whole), len(custom) * len(other))
        many = 0
        for counts in counts_up_to(len(custom.gates), most_folk):
            said = [says(one, crowd_by(one, counts)) for one in (custom, other)]
            if "split" in said:
                continue
            is_yes = (all if word == "and" else any)([one == "yes" for one in said])
            self.assertEqual(says(whole, crowd_by(whole, counts)), "yes" if is_yes else "no", (custom, other, counts))
            many += 1
        return many

    def test_the_word_left_out_is_and(self):
        other = turned(SWING)
        self.assertEqual(joined(LOUD, other), joined(LOUD, other, word="and"))
        self.assertNotEqual(joined(LOUD, other), joined(LOUD, other, word="or"))

    def test_by_name(self):
        self.assertEqual(joined(word="or", other=SWING, custom=LOUD), joined(LOUD, SWING, word="or"))

    def test_each_word_of_each_two(self):
        customs = (LOUD, turned(LOUD), SWING, turned(SWING), STILL, turned(STILL))
        for custom, other in itertools.product(customs, repeat=2):
            for word in ("and", "or"):
                self.assertGreater(self.assert_says_joined(custom, other, word, 4), 10)

    def test_the_gates_words_are_the_first_ones(self):
        self.assertEqual([word for word, _ in joined(LOUD, SWING).gates], ["in", "out"])
        self.assertEqual([word for word, _ in joined(SWING, LOUD).gates], ["p", "q"])
        three = Custom(("x", "y"), (), (("c", "x"), ("a", "y"), ("b", "y")), yes=("x", "y"))
        other = Custom(("x", "y"), (), (("f", "y"), ("e", "x"), ("d", "y")), yes=("x", "y"))
        self.assertEqual([word for word, _ in joined(three, other).gates], ["c", "a", "b"])

    def test_customs_of_all_sorts(self):
        chance = random.Random(3)
        many = 0
        for _ in range(700):
            gates = chance.randint(1, 2)
            custom = custom_of(chance, chance.randint(2, 3), ("x", "y")[:gates])
            other = custom_of(chance, chance.randint(2, 3), ("p", "q")[:gates])
            many += self.assert_says_joined(custom, other, chance.choice(["and", "or"]), 4)
        self.assertGreater(many, 1500)

    def test_customs_of_which_one_kind_comes(self):
        for yes, other_yes in itertools.product([(), ("x",), ("y",), ("x", "y")], repeat=2):
            for first, second in itertools.product(("x", "y"), repeat=2):
                one = Custom(("x", "y"), (), (("in", first),), yes=yes)
                other = Custom(("x", "y"), (), (("in", second),), yes=other_yes)
                for word in ("and", "or"):
                    self.assertEqual(self.assert_says_joined(one, other, word, 3), 3)

    def test_refused_with_sixty_only_where_there_may_be_more(self):
        refused = 0
        chance = random.Random(5)
        customs = [chain_of(many) for many in (2, 6, 7, 8, 20, 60)]
        customs += [custom_of(chance, many, ("in",)) for many in (3, 6, 7, 7, 8, 8, 8, 8)]
        for custom, other in itertools.product(customs, repeat=2):
            try:
                whole = joined(custom, other)
            except TooMany as error:
                refused += 1
                self.assertEqual(error.most, 60)
                self.assertGreater(len(custom) * len(other), 60)
            else:
                self.assertLessEqual(len(whole), min(60, len(custom) * len(other)))
        self.assertGreater(refused, 0)

    def test_customs_of_sixty_kinds(self):
        self.assertEqual(self.assert_says_joined(chain_of(60), turned(chain_of(60)), "or", 3), 3)
        self.assertEqual(self.assert_says_joined(chain_of(30), STILL_ONE, "and", 3), 3)

    def test_what_is_handed_in_stays(self):
        ahead = [four_of(custom) for custom in (LOUD, SWING)]
        joined(LOUD, SWING, word="or")
        joined(LOUD, LOUD)
        self.assertEqual([four_of(custom) for custom in (LOUD, SWING)], ahead)

    def test_customs_made_for_sentences(self):
        many = 0
        made = []
        for sentence in sentences(4, 60, 0):
            if len(made_for(sentence)) <= 12:
                made.append(made_for(sentence))
        for custom, other in itertools.product(made[:30], repeat=2):
            if len(custom.gates) == len(other.gates) and len(custom) * len(other) <= 60:
                many += self.assert_says_joined(custom, other, "or", 3)
                many += self.assert_says_joined(turned(custom), other, "and", 3)
        self.assertGreater(many, 50)


if __name__ == "__main__":
    unittest.main()
