"""The whole program: its interface, and that all of it tells the same of a sentence (points 1, 2 and 3)."""

import importlib
import inspect
import os
import random
import sys
import unittest

sys.path.insert(0, os.path.dirname(os.path.abspath(__file__)))

from plain import counts_up_to, crowd_by, is_plainly_so, leaves_of, sentence_of, sentences, word_of

from crowdsay.customs import MOST_KINDS
from crowdsay.desk import Desk
from crowdsay.errors import TooMany
from crowdsay.forall import is_paper_for_all, paper_for, turned_paper
from crowdsay.joined import joined, turned
from crowdsay.keeper import Keeper
from crowdsay.made import made_for
from crowdsay.papers import is_paper, paper
from crowdsay.questions import holds, plainly
from crowdsay.rounds import says, sure
from crowdsay.sentences import is_so, read_sentence, show_sentence
from crowdsay.sums import is_kept
from crowdsay.texts import read_custom
from crowdsay.throng import MOST_PARTS, Throng

# Each file with its names: a def's or class's places, behind a star those by name alone, "=" where one may be left out.
INTERFACE = {
    "customs": {
        "FEW_KINDS": 8, "MOST_KINDS": 60, "why_no_custom": "kinds rows gates * yes=() most=8",
        "Custom": "kinds rows gates * yes=() most=8", "place_of": "custom kind", "says_yes": "custom kind",
    },
    "meetings": {"can_be_done": "custom crowd", "behind": "custom crowd number", "trail": "custom crowd numbers"},
    "comings": {
        "MOST_CROWDS": 400, "comes": "custom crowd * most=400", "way": "custom one other * most=400",
    },
    "rounds": {name: "custom crowd" for name in ("rounds", "agrees", "says", "sure")},
    "papers": {"paper": "custom crowd", "is_paper": "custom crowd thing"},
    "shares": {"Share": "top bottom=1"},
    "means": {"MOST_BETWEEN": 40, "mean": "custom crowd", "chances": "custom crowd"},
    "sums": {
        "kept_sums": "custom", "is_kept": "custom weights * by=0", "worth_of": "weights crowd",
        "parted_by": "custom one other",
    },
    "sentences": {
        "is_so": "sentence counts", "many_of": "sentence", "show_sentence": "sentence", "read_sentence": "text",
    },
    "questions": {"holds": "question counts", "witness": "question counts", "plainly": "question"},
    "made": {"made_for": "sentence"},
    "joined": {"turned": "custom", "joined": "custom other * word='and'"},
    "forall": {
        "MOST_CHOICES": 4000, "is_paper_for_all": "custom sentence thing", "paper_for": "sentence",
        "joined_papers": "custom other one two * word='and'", "turned_paper": "custom one",
    },
    "texts": {"read_custom": "text * most=8"},
    "choosing": {"chosen": "word crowd numbers"},
    "keeper": {"Keeper": "custom * choose='least'"},
    "desk": {"Desk": ""},
    "throng": {"MOST_PARTS": 12, "Throng": "sentence"},
}
METHODS = {
    ("shares", "Share"): {"plus": "other", "less": "other", "times": "other", "by": "other"},
    ("keeper", "Keeper"): {
        "come": "gate * many=1", "meet": "numbers", "crowd": "", "came": "gate=None", "go": "* most=100", "settle": "",
        "mark": "", "back": "number", "copy": "",
    },
    ("desk", "Desk"): {"say": "row", "log": ""},
    ("throng", "Throng"): {
        "come": "gate * many=1", "meet": "one other", "says": "number", "said": "", "came": "gate=None",
        "pour": "other", "stretch": "* backward=False", "mark": "", "back": "number", "copy": "",
    },
}


def written(thing, is_method=False):
    """How a def's parameters are written in these tables."""
    words = []
    for name, parameter in list(inspect.signature(thing).parameters.items())[is_method:]:
        if parameter.kind == parameter.KEYWORD_ONLY and "*" not in words:
            words.append("*")
        words.append(name if parameter.default is parameter.empty else f"{name}={parameter.default!r}")
    return " ".join(words)


class InterfaceTest(unittest.TestCase):
    def test_names_and_what_they_take(self):
        for file, names in INTERFACE.items():
            module = importlib.import_module("crowdsay." + file)
            for name, told in names.items():
                with self.subTest(file=file, name=name):
                    thing = getattr(module, name)
                    if isinstance(told, int):
                        self.assertEqual(thing, told)
                    else:
                        self.assertEqual(thing.__module__, "crowdsay." + file)
                        self.assertEqual(written(thing), told)

    def test_methods_stand_in_the_class_itself(self):
        for (file, name), methods in METHODS.items():
            cls = getattr(importlib.import_module("crowdsay." + file), name)
            for method, told in methods.items():
                with self.subTest(name=name, method=method):
                    self.assertEqual(written(vars(cls)[method], True), told)


class WholeTest(unittest.TestCase):
    def made(self, seed, times, around=2):
        for sentence in sentences(seed, times, around):
            try:
                yield sentence, made_for(sentence)
            except TooMany:
                pass

    def test_all_tell_whether_the_sentence_is_so(self):
        many = 0
        for sentence, custom in self.made(31, 150):
            custom = read_custom(str(custom), most=MOST_KINDS)
            again = read_sentence(show_sentence(sentence))
            self.assertEqual((custom, again), (made_for(again), sentence))
            for counts in counts_up_to(len(custom.gates), 3):
                truth = is_so(sentence, counts)
                self.assertEqual(truth, is_plainly_so(sentence, counts))
                word = word_of(truth)
                crowd = crowd_by(custom, counts)
                self.assertEqual(says(custom, crowd), word)
                self.assertTrue(is_paper(custom, crowd, paper(custom, crowd)))
                self.assertEqual(self.kept(custom, counts), word)
                self.assertEqual(self.told(sentence, counts), word)
                self.assertEqual(self.thronged(sentence, counts), word)
                many += 1
        self.assertGreater(many, 1000)

    def kept(self, custom, counts):
        keeper = Keeper(custom, choose="even")
        for (word, _), many in zip(custom.gates, counts):
            if many:
                keeper.come(word, many=many)
                keeper.go(most=2)
        keeper.settle()
        self.assertEqual(sum(keeper.crowd()), keeper.came())
        return sure(custom, keeper.crowd())

    def told(self, sentence, counts):
        desk = Desk()
        desk.say("make " + show_sentence(sentence))
        for word, many in zip("abc", counts):
            if many:
                desk.say(f"come {word} {many}")
        desk.say("settle")
        self.assertEqual(desk.say("say"), desk.say("is " + show_sentence(sentence)))
        return desk.say("say")

    def thronged(self, sentence, counts):
        throng = Throng(sentence)
        for word, many in zip("abc", counts):
            if many:
                throng.come(word, many=many)
        while throng.stretch():
            pass
        return throng.said()

    def test_papers_for_all_are_right_and_what_they_keep_is_kept(self):
        many = 0
        for sentence, custom in self.made(32, 150):
            try:
                told = paper_for(sentence)
            except TooMany:
                continue
            self.assertIs(is_paper_for_all(custom, sentence, told), True)
            self.assertIs(is_paper_for_all(turned(custom), ("not", sentence), turned_paper(custom, told)), True)
            self.assertIs(is_paper_for_all(turned(custom), sentence, told), False)
            for leaf, numbers in zip(leaves_of(sentence), told[2]):
                self.assertTrue(is_kept(custom, numbers, by=leaf[2] if leaf[0] == "rest" else 0))
            many += 1
        self.assertGreater(many, 100)

    def test_no_right_paper_of_what_a_custom_does_not_say(self):
        chance = random.Random(33)
        many = 0
        for sentence, custom in self.made(33, 100, 0):
            told = paper_for(sentence)
            other = sentence_of(chance, len(custom.gates), 0)
            differs = [
                counts for counts in counts_up_to(len(custom.gates), 6)
                if is_plainly_so(sentence, counts) != is_plainly_so(other, counts)
            ]
            if differs:
                self.assertIs(is_paper_for_all(custom, other, told), False)
                many += 1
        self.assertGreater(many, 60)

    def test_customs_put_together_say_what_sentences_put_together_are(self):
        made = [(sentence, custom) for sentence, custom in self.made(34, 60, 1) if len(custom) <= 7]
        many = 0
        for sentence, custom in made:
            for other_sentence, other in made:
                if len(custom.gates) == len(other.gates):
                    whole = joined(custom, turned(other), word="or")
                    for counts in counts_up_to(len(custom.gates), 3):
                        truth = is_plainly_so(("or", sentence, ("not", other_sentence)), counts)
                        self.assertEqual(says(whole, crowd_by(whole, counts)), word_of(truth))
                        many += 1
        self.assertGreater(many, 300)

    def test_questions_put_plainly_are_said_by_crowds(self):
        chance = random.Random(35)
        many = 0
        for _ in range(80):
            question = (chance.choice(["some", "all"]), sentence_of(chance, chance.randint(2, 3), 1))
            sentence = plainly(question)
            gates = len(leaves_of(sentence)[0][1])
            for counts in counts_up_to(gates, 3):
                if len(leaves_of(sentence)) <= MOST_PARTS:
                    self.assertEqual(self.thronged(sentence, counts), word_of(holds(question, counts)))
                try:
                    custom = made_for(sentence)
                    told = says(custom, crowd_by(custom, counts))
                except TooMany:
                    continue
                self.assertEqual(told, word_of(holds(question, counts)))
                many += 1
        self.assertGreater(many, 150)

    def test_nothing_hangs_on_what_was_asked_before(self):
        asked = list(self.made(36, 40))
        self.assertEqual(asked, list(self.made(36, 40)))
        for sentence, custom in asked:
            four = (custom.kinds, custom.rows, custom.gates, custom.yes)
            joined(custom, custom)
            turned(custom)
            keeper = Keeper(custom)
            keeper.come("a", many=3)
            keeper.go()
            self.assertEqual((custom.kinds, custom.rows, custom.gates, custom.yes), four)
            self.assertEqual(custom, made_for(sentence))


if __name__ == "__main__":
    unittest.main()
