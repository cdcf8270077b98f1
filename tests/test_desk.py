"""A desk (points 2, 20 and 23)."""

import os
import random
import sys
import unittest

sys.path.insert(0, os.path.dirname(os.path.abspath(__file__)))

from plain import crowd_by, is_plainly_so, sentences, word_of

from crowdsay.customs import Custom
from crowdsay.desk import Desk
from crowdsay.errors import (
    NoBody, NoCustom, NoGate, NoMark, NoMeeting, NoRow, NoSay, NoStand, NoText, TooMany,
)
from crowdsay.keeper import Keeper
from crowdsay.made import made_for
from crowdsay.means import mean
from crowdsay.rounds import says
from crowdsay.sentences import show_sentence
from crowdsay.sums import kept_sums

ODD = Custom(
    ("odd", "even", "n", "y"),
    (
        ("odd", "odd", "even", "n"), ("odd", "even", "odd", "y"), ("odd", "n", "odd", "y"),
        ("even", "even", "even", "n"), ("even", "y", "even", "n"),
    ),
    (("in", "odd"), ("out", "even")),
    yes=("odd", "y"),
)
SWING = Custom(("z", "m"), (("z", "z", "z", "m"), ("z", "m", "z", "z")), (("in", "z"),), yes=("z",))
LOUD = Custom(("z", "y"), (("z", "y", "y", "y"),), (("in", "z"), ("out", "y")), yes=("y",))
WRONG_ROWS = (
    "", " ", "hello", "custom", "custom ", "custom kinds x y", "customs\nx", " custom\n", "make", "is", "Make x",
    "make\nleast 1 1", "is\nleast 1 1", "come", "come in", "come in 0", "come in 51", "come in 100", "come in 01",
    "come in 007", "come in -1", "come in +1", "come in 1.0", "come in 1 1", "come  in 1", "come in  1", " come in 1",
    "come in 1 ", "come In 1", "come in1 1", "come abcdefghi 1", "come  1", "come 1 in", "come in one", "come in 1\n",
    "come in 1000", "Come in 1", "meet", "meet ", "meet  0", "meet 0 ", "meet 00", "meet 01", "meet -1", "meet 0,1",
    "meet 1000", "meet x", "meet 0 x", "meet 0\n1", "crowd ", "crowd 1", " crowd", "crowd\n", "Crowd", "go", "go 0",
    "go -1", "go 1000", "go 01", "go 1 1", "go x", "go ", "go  1", "goo 1", "say yes", "say ", "says", "settle 1",
    "settle ", "mark 0", "mark ", "back", "back ", "back x", "back -1", "back 00", "back 1000", "back 0 0", "means",
    "mean ", "mean 1", "sums ", "sums 2", "log", "copy", "came", "is ", "isleast 1 1",
)


def desk_of(custom=ODD, *rows):
    desk = Desk()
    desk.say("custom\n" + str(custom))
    for row in rows:
        desk.say(row)
    return desk


def looks(desk):
    """What a desk at which a custom stands tells without being changed by it."""
    told = [desk.say("crowd"), desk.say("sums")]
    for row in ("say", "mean"):
        try:
            told.append(desk.say(row))
        except (NoBody, TooMany) as error:
            told.append(type(error))
    return told


class DeskTest(unittest.TestCase):
    def assert_refused(self, error, row, desk, field=None):
        with self.assertRaises(error) as raised:
            desk.say(row)
        self.assertIs(type(raised.exception), error, row)
        if field is not None:
            self.assertEqual(getattr(raised.exception, field[0]), field[1])

    def test_is_defined_in_this_file(self):
        self.assertEqual(Desk.__module__, "crowdsay.desk")
        for name in ("say", "log"):
            self.assertIn(name, vars(Desk))

    def test_custom(self):
        desk = Desk()
        self.assertEqual(desk.say("custom\n" + str(ODD)), "ok")
        self.assertEqual(desk.say(row="crowd"), "0,0,0,0")
        desk.say("come in 3")
        desk.say("mark")
        self.assertEqual(desk.say("custom\n" + str(SWING)), "ok")
        self.assertEqual(desk.say("crowd"), "0,0")
        self.assert_refused(NoMark, "back 0", desk)
        self.assertEqual(desk.say("custom\n" + str(SWING)), "ok")

    def test_a_text_that_is_none(self):
        desk = desk_of(ODD, "come in 2")
        before = looks(desk)
        for text, line in (("", 0), ("x", 0), ("kinds x y\ngate a is x\nno", 2), (str(ODD) + "\n", 8),
                           ("kinds x y\ngate a be x\nyes", 1), ("kinds x y\nx y to y y\nyes", 0), ("\n" + str(ODD), 0)):
            self.assert_refused(NoText, "custom\n" + text, desk, ("line", line))
            self.assert_refused(NoText, "custom\n" + text, Desk(), ("line", line))
        self.assertEqual(looks(desk), before)

    def test_a_text_that_makes_no_custom(self):
        desk = desk_of(ODD, "come in 2")
        before = looks(desk)
        self.assert_refused(NoCustom, "custom\nkinds x x\ngate a is x\nyes", desk, ("fault", "names"))
        self.assert_refused(NoCustom, "custom\nkinds x y\ngate a is x\nyes y x", desk, ("fault", "order"))
        self.assertEqual(looks(desk), before)

    def test_most_is_left_out(self):
        kinds = tuple("abcdefghi")
        self.assertEqual(Desk().say("custom\n" + str(Custom(kinds[:8], (), (("in", "a"),)))), "ok")
        self.assert_refused(NoText, "custom\n" + str(Custom(kinds, (), (("in", "a"),), most=9)), Desk(), ("line", 0))

    def test_make(self):
        desk = desk_of(SWING, "come in 3")
        self.assertEqual(desk.say("make least 1,-1 1"), "ok")
        made = made_for(("least", (1, -1), 1))
        self.assertEqual(desk.say("crowd"), ",".join("0" * len(made)))
        self.assertEqual(desk.say("come b 2"), "ok")
        self.assertEqual(desk.say("crowd"), ",".join(map(str, crowd_by(made, (0, 2)))))
        self.assertEqual(Desk().say("make (rest 1 2 0 and not rest 1 3 1)"), "ok")

    def test_make_of_no_sentence(self):
        desk = desk_of(ODD, "come in 2")
        before = looks(desk)
        for text in ("", " ", "least", "least 1", "least 1 5", "least 4 1", "rest 1 6 0", "(least 1 1)", "least 1 1 "):
            self.assert_refused(NoText, "make " + text, desk, ("line", 0))
            self.assert_refused(NoText, "make " + text, Desk(), ("line", 0))
        self.assertEqual(looks(desk), before)

    def test_make_of_too_many_kinds(self):
        texts = ["(%s and %s)" % (one, other) for one in ("least 3,-2,1 4", "least -3,2,2 -4") for other in
                 ("rest 1,2,3 5 1", "least 1,3,-3 4", "(rest 1,2,1 5 1 or rest 2,1,3 5 3)")]
        refused = 0
        for text in texts:
            desk = desk_of(ODD, "come in 2")
            try:
                self.assertEqual(desk.say("make " + text), "ok")
            except TooMany as error:
                refused += 1
                self.assertEqual(error.most, 60)
                self.assertEqual(desk.say("crowd"), "2,0,0,0")
        self.assertGreater(refused, 0)

    def test_come(self):
        desk = desk_of()
        self.assertEqual(desk.say("come in 1"), "ok")
        self.assertEqual(desk.say("come out 50"), "ok")
        self.assertEqual(desk.say("come in 10"), "ok")
        self.assertEqual(desk.say("crowd"), "11,50,0,0")
        for word in ("inn", "odd", "a", "abcdefgh"):
            self.assert_refused(NoGate, f"come {word} 1", desk, ("word", word))
        self.assertEqual(desk.say("crowd"), "11,50,0,0")

    def test_meet(self):
        desk = desk_of(ODD, "come in 3", "come out 1")
        self.assertEqual(desk.say("meet 0"), "1,2,1,0")
        self.assertEqual(desk.say("meet 3 1"), "1,0,2,1")
        for row, place in (("meet 2 2 2", 2), ("meet 5", 0), ("meet 2 999", 1), ("meet 0 2", 0)):
            self.assert_refused(NoMeeting, row, desk, ("place", place))
            self.assertEqual(desk.say("crowd"), "1,0,2,1")

    def test_go(self):
        desk = desk_of(ODD, "come in 3", "come out 1")
        keeper = Keeper(ODD)
        keeper.come("in", many=3)
        keeper.come("out")
        for most in (2, 1, 999):
            self.assertEqual(desk.say(f"go {most}"), " ".join(map(str, keeper.go(most=most))))
        self.assertEqual(desk.say("go 10"), "none")
        self.assertEqual(desk.say("crowd"), str(keeper))
        self.assertEqual(desk_of().say("go 5"), "none")
        self.assertEqual(len(desk_of(SWING, "come in 9").say("go 999").split(" ")), 999)

    def test_say(self):
        for many, word in ((1, "yes"), (2, "no"), (5, "yes")):
            desk = desk_of(ODD, f"come in {many}", "come out 2")
            self.assertEqual(desk.say("say"), word)
            desk.say("go 3")
            self.assertEqual(desk.say("say"), word)
        self.assertEqual(desk_of(SWING, "come in 3").say("say"), "split")

    def test_settle(self):
        desk = desk_of(ODD, "come in 3", "come out 1")
        keeper = Keeper(ODD)
        keeper.come("in", many=3)
        keeper.come("out")
        self.assertEqual(desk.say("settle"), " ".join(map(str, keeper.settle())))
        self.assertEqual(desk.say("crowd"), str(keeper))
        self.assertEqual(desk.say("settle"), "none")
        self.assert_refused(NoSay, "settle", desk_of(SWING, "come in 3"))

    def test_mark_and_back(self):
        desk = desk_of(ODD, "come in 3")
        self.assertEqual(desk.say("mark"), "0")
        desk.say("meet 0")
        self.assertEqual(desk.say("mark"), "1")
        desk.say("come out 4")
        self.assertEqual(desk.say("back 1"), "ok")
        self.assertEqual(desk.say("crowd"), "1,1,1,0")
        self.assertEqual(desk.say("back 0"), "ok")
        self.assertEqual(desk.say("crowd"), "3,0,0,0")
        self.assert_refused(NoMark, "back 1", desk, ("number", 1))
        self.assert_refused(NoMark, "back 999", desk, ("number", 999))
        self.assertEqual(desk.say("is least 1,0 3"), "yes")
        self.assertEqual([desk.say("mark"), desk.say("mark")], ["1", "2"])

    def test_mean(self):
        self.assertEqual(desk_of(ODD, "come in 1").say("mean"), "0")
        for counts in ((2, 0), (2, 1), (1, 2), (3, 1)):
            rows = [f"come {word} {many}" for word, many in zip(("in", "out"), counts) if many]
            self.assertEqual(desk_of(ODD, *rows).say("mean"), str(mean(ODD, crowd_by(ODD, counts))))
        self.assertIn("/", desk_of(ODD, "come in 1", "come out 2").say("mean"))
        self.assertEqual(desk_of(SWING, "come in 3").say("mean"), "never")

    def test_sums(self):
        self.assertEqual(kept_sums(ODD), [(1, 1, 1, 1)])
        self.assertEqual(desk_of().say("sums"), "1,1,1,1")
        still = Custom(("x", "y", "z"), (("x", "x", "x", "y"),), (("in", "x"),))
        self.assertEqual(desk_of(still).say("sums"), "1,1,0 0,0,1")
        self.assertEqual(desk_of(still, "come in 3", "go 2").say("sums"), "1,1,0 0,0,1")
        pairs = Custom(("x", "y", "z"), (("x", "x", "y", "z"),), (("in", "x"),))
        self.assertEqual(
            desk_of(pairs).say("sums"), " ".join([",".join(map(str, numbers)) for numbers in kept_sums(pairs)])
        )

    def test_is(self):
        desk = desk_of()
        self.assertEqual(desk.say("is least 1,1 0"), "yes")
        self.assertEqual(desk.say("is least 1,1 1"), "no")
        desk.say("come in 3")
        desk.say("come out 2")
        desk.say("go 4")
        for text, word in (("least 1,-1 1", "yes"), ("least 1,-1 2", "no"), ("rest 1,1 5 0", "yes"),
                           ("(least 1,0 4 or not rest 0,1 2 1)", "yes"), ("not least 1,0 3", "no")):
            self.assertEqual(desk.say("is " + text), word)

    def test_is_refused(self):
        desk = desk_of()
        for text in ("", "x", "least 1,1", "least 1 5", " least 1,1 1", "least 1,1 1 "):
            self.assert_refused(NoText, "is " + text, desk, ("line", 0))
        for text in ("least 1 1", "rest 1,2,3 2 0", "(least 1 1 and least 1 2)", "not least 1 1"):
            self.assert_refused(NoRow, "is " + text, desk)
        self.assertEqual(desk_of(SWING).say("is least 1 1"), "no")

    def test_rows_that_are_none_by_their_words(self):
        desk = desk_of(ODD, "come in 3", "mark")
        before = looks(desk)
        for row in WRONG_ROWS:
            error = NoText if row == "is " else NoRow
            self.assert_refused(error, row, desk)
            self.assert_refused(NoStand if row == "is " else NoRow, row, Desk())
        self.assertEqual(looks(desk), before)
        self.assertEqual(desk.say("mark"), "1")

    def test_where_no_custom_stands(self):
        for row in (
            "come in 1", "come nowhere 50", "meet 0", "meet 999 999", "crowd", "go 1", "say", "settle", "mark",
            "back 0", "back 999", "mean", "sums", "is least 1 1", "is ", "is x", "is least 1,1,1 1",
        ):
            self.assert_refused(NoStand, row, Desk())
        desk = Desk()
        self.assert_refused(NoText, "make x", desk)
        self.assert_refused(NoText, "custom\nx", desk)
        self.assert_refused(NoStand, "crowd", desk)
        self.assertEqual(desk.say("make least 1 1"), "ok")
        self.assertEqual([desk.say("come a 1"), desk.say("say")], ["ok", "yes"])

    def test_where_nobody_came(self):
        for custom in (ODD, SWING):
            desk = desk_of(custom)
            for row in ("say", "mean", "settle"):
                self.assert_refused(NoBody, row, desk)
            self.assertEqual(desk.say("crowd"), ",".join("0" * len(custom)))
            desk.say("mark")
            desk.say("come in 1")
            desk.say("back 0")
            self.assert_refused(NoBody, "say", desk)

    def test_too_many(self):
        desk = desk_of(ODD, "come in 50", "come out 50")
        for row in ("say", "settle", "mean"):
            self.assert_refused(TooMany, row, desk, ("most", 400))
        self.assertEqual(desk.say("crowd"), "50,50,0,0")
        between = desk_of(LOUD, "come in 41", "come out 1")
        self.assertEqual(between.say("say"), "yes")
        self.assert_refused(TooMany, "mean", between, ("most", 40))
        between.say("go 1")
        self.assertEqual(between.say("mean"), str(mean(LOUD, (40, 2))))

    def test_numbers_of_one_to_three_figures(self):
        desk = desk_of(SWING, "come in 9")
        for row in ("go 1", "go 10", "go 999", "come in 5", "come in 49"):
            desk.say(row)
        for number in range(12):
            self.assertEqual(desk.say("mark"), str(number))
        for row in ("back 11", "back 10", "back 0"):
            self.assertEqual(desk.say(row), "ok")

    def test_log(self):
        desk = Desk()
        self.assertEqual(desk.log(), [])
        rows = ["crowd", "make least 1 1", "x", "come a 2", "come b 2", "meet 9", "say", "is x", "custom\nx", "go 3"]
        for number, row in enumerate(rows):
            try:
                desk.say(row)
            except (NoStand, NoRow, NoGate, NoMeeting, NoText):
                pass
            self.assertEqual(len(desk.log()), 2 * number + 2)
        self.assertEqual(desk.log()[:4], [(0, "in"), (0, "out"), (1, "in"), (1, "out")])
        self.assertEqual(desk.log(), [(number, word) for number in range(len(rows)) for word in ("in", "out")])

    def test_the_told_log_is_the_askers_own(self):
        desk = desk_of()
        desk.log().clear()
        desk.log().append((7, "in"))
        self.assertEqual(desk.log(), [(0, "in"), (0, "out")])

    def test_two_desks_beside_one_another(self):
        one, other = desk_of(ODD, "come in 3"), desk_of(SWING, "come in 2", "mark")
        self.assertEqual(one.say("go 2"), "0 1")
        self.assertEqual(other.say("crowd"), "2,0")
        self.assertEqual(other.say("go 1"), "0")
        self.assertEqual(one.say("crowd"), "1,0,1,1")
        self.assertEqual(other.say("crowd"), "1,1")
        self.assert_refused(NoMark, "back 0", one)
        self.assertEqual(other.say("back 0"), "ok")
        self.assertEqual((len(one.log()), len(other.log())), (2 * 5, 2 * 7))

    def test_customs_made_told_and_settled(self):
        chance = random.Random(7)
        many = 0
        for sentence in sentences(26, 250):
            desk = Desk()
            try:
                custom = made_for(sentence)
            except TooMany:
                continue
            self.assertEqual(desk.say("make " + show_sentence(sentence)), "ok")
            counts = [chance.randint(1, 2) for _ in custom.gates]
            for (word, _), count in zip(custom.gates, counts):
                desk.say(f"come {word} {count}")
                desk.say("go 1")
            try:
                told = desk.say("say")
                desk.say("settle")
            except TooMany:
                continue
            word = word_of(is_plainly_so(sentence, counts))
            self.assertEqual((told, desk.say("say"), desk.say("is " + show_sentence(sentence))), (word, word, word))
            self.assertEqual(says(custom, tuple(map(int, desk.say("crowd").split(",")))), word)
            many += 1
        self.assertGreater(many, 130)


if __name__ == "__main__":
    unittest.main()
