"""Throngs: folk, each with a number, who meet as they like and come to say whether a sentence is so."""

from crowdsay.bearing import begun, met, rule_of
from crowdsay.errors import NoFolk, NoKin
from crowdsay.gates import GATE_WORDS, came_by, place_of_gate, with_more
from crowdsay.inorder import is_so_by, leaves_in_order
from crowdsay.marks import Marks
from crowdsay.sentences import many_of

MOST_PARTS = 12


def _pairs_of(many, is_backward):
    pairs = [(one, other) for one in range(many) for other in range(one + 1, many)]
    if is_backward:
        return [(other, one) for one, other in pairs[::-1]]
    return pairs


class Throng:
    """A throng made for a sentence, which begins with nobody."""

    def __init__(self, sentence):
        self._sentence = sentence
        self._leaves = leaves_in_order(sentence)
        self._rules = [rule_of(leaf) for leaf in self._leaves]
        self._words = GATE_WORDS[:many_of(sentence)]
        # What each of the folk bears, one for each least and rest: a tuple, so that a mark may keep it.
        self._folk = []
        self._came = (0,) * len(self._words)
        self._marks = Marks([])

    def __eq__(self, other):
        return (
            isinstance(other, Throng)
            and self._sentence == other._sentence
            and self._came == other._came
            and self._all_say() == other._all_say()
        )

    def __len__(self):
        return len(self._folk)

    def _is_yes(self, borne):
        return is_so_by(self._sentence, [is_yes for _, _, is_yes in borne])

    def _all_say(self):
        return [self._is_yes(borne) for borne in self._folk]

    def _refuse_nobody(self, number):
        if not 0 <= number < len(self._folk):
            raise NoFolk(number)

    def come(self, gate, *, many=1):
        """Let so many more come by the gate of this word, and tell their numbers."""
        place = place_of_gate(self._words, gate)
        borne = tuple([begun(rule, leaf[1][place]) for rule, leaf in zip(self._rules, self._leaves)])
        self._came = with_more(self._came, place, many)
        self._folk = self._folk + [borne] * many
        return list(range(len(self._folk) - many, len(self._folk)))

    def _met(self, one, other):
        """Let two meet, and tell whether anything changed by it."""
        firsts = self._folk[one]
        seconds = self._folk[other]
        ends = [met(rule, first, second) for rule, first, second in zip(self._rules, firsts, seconds)]
        self._folk[one] = tuple([first for first, _ in ends])
        self._folk[other] = tuple([second for _, second in ends])
        return self._folk[one] != firsts or self._folk[other] != seconds

    def meet(self, one, other):
        """Let the two of these numbers meet."""
        self._refuse_nobody(one)
        self._refuse_nobody(other)
        if one == other:
            raise NoFolk(other)
        self._met(one, other)

    def says(self, number):
        """Tell what the one of this number says: "yes" or "no"."""
        self._refuse_nobody(number)
        return "yes" if self._is_yes(self._folk[number]) else "no"

    def said(self):
        """Tell what all say, or None where they don't say one thing, or nobody came."""
        said = self._all_say()
        if not said or said != [said[0]] * len(said):
            return None
        return "yes" if said[0] else "no"

    def came(self, gate=None):
        """Tell how many came by the gate of this word, or in all."""
        return came_by(self._words, self._came, gate)

    def pour(self, other):
        """Let the other throng's folk come, too, as they are, behind these."""
        if self._sentence != other._sentence:
            raise NoKin("made for another sentence")
        self._folk = self._folk + other._folk
        self._came = tuple([one + more for one, more in zip(self._came, other._came)])

    def stretch(self, *, backward=False):
        """Let each two of the folk meet once, and tell how many meetings changed anything."""
        changed = 0
        for one, other in _pairs_of(len(self._folk), backward):
            if self._met(one, other):
                changed += 1
        return changed

    def mark(self):
        """Tell the number of a mark at what is now."""
        return self._marks.told((list(self._folk), self._came))

    def back(self, number):
        """Let all be as it was when this mark was told."""
        folk, self._came = self._marks.gone_back_to(number)
        self._folk = list(folk)

    def copy(self):
        """Tell another throng that is now as this one is, with its marks."""
        other = Throng(self._sentence)
        other._folk = list(self._folk)
        other._came = self._came
        other._marks = self._marks.copied()
        return other
