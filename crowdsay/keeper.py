"""Keepers: crowds that go on, by whoever chooses which rows are done."""

from crowdsay.choosing import chosen
from crowdsay.errors import NoBody, NoMeeting, NoSay, NoTurn
from crowdsay.gates import came_by, place_of_gate, with_more
from crowdsay.marks import Marks
from crowdsay.meetings import behind, can_be_done, trail
from crowdsay.papers import paper
from crowdsay.wholes import is_whole


class Keeper:
    """A keeper of a custom's crowd, which begins with nobody."""

    def __init__(self, custom, *, choose="least"):
        self.custom = custom
        self._choose = choose
        # All that changes and that a mark brings back; none of it is ever changed by itself.
        self._counts = (0,) * len(custom)
        self._came = (0,) * len(custom.gates)
        self._many_done = 0
        self._marks = Marks([])
        self._is_going = False

    def __eq__(self, other):
        return (
            isinstance(other, Keeper)
            and self.custom == other.custom
            and self._counts == other._counts
            and self._came == other._came
            and self._many_done == other._many_done
        )

    def __len__(self):
        return len(range(self._many_done))

    def __str__(self):
        return ",".join([str(many) for many in self._counts])

    def __repr__(self):
        return ",".join([str(many) for many in self._counts])

    def _refuse_while_going(self):
        if self._is_going:
            raise NoTurn("the keeper is going on")

    def _gate_words(self):
        return [word for word, _ in self.custom.gates]

    def _do(self, number):
        self._counts = behind(self.custom, self._counts, number)
        self._many_done += 1

    def come(self, gate, *, many=1):
        """Let so many more come by the gate of this word."""
        self._refuse_while_going()
        place = place_of_gate(self._gate_words(), gate)
        kind = self.custom.kinds.index(self.custom.gates[place][1])
        self._counts = with_more(self._counts, kind, many)
        self._came = with_more(self._came, place, many)

    def meet(self, numbers):
        """Do these rows one behind the other, or none of them."""
        self._refuse_while_going()
        self._counts = trail(self.custom, self._counts, numbers)[-1]
        self._many_done += len(numbers)

    def crowd(self):
        """Tell the crowd, or noughts."""
        return self._counts

    def came(self, gate=None):
        """Tell how many came by the gate of this word, or in all."""
        return came_by(self._gate_words(), self._came, gate)

    def _choice(self, numbers):
        choose = self._choose
        if isinstance(choose, str):
            return chosen(choose, self._counts, numbers)
        # The chooser's own list, which it may change as it likes.
        return choose(self._counts, list(numbers))

    def _go_on(self, done, most):
        while len(done) < most:
            numbers = can_be_done(self.custom, self._counts)
            if not numbers:
                return
            number = self._choice(numbers)
            if not is_whole(number) or number not in numbers:
                raise NoMeeting(len(done))
            self._do(number)
            done.append(number)

    def go(self, *, most=100):
        """Do row after row as the chooser tells, till none can be done or so many are done, and tell their numbers."""
        self._refuse_while_going()
        done = []
        self._is_going = True
        try:
            self._go_on(done, most)
        finally:
            self._is_going = False
        return done

    def _lesser(self, ranks):
        """Tell the least row that leads to a lesser rank."""
        for number in can_be_done(self.custom, self._counts):
            if ranks[behind(self.custom, self._counts, number)] < ranks[self._counts]:
                return number
        return None

    def settle(self):
        """Do rows by the ranks of the crowd's paper till its rank is 0, and tell their numbers."""
        self._refuse_while_going()
        if sum(self._counts) == 0:
            raise NoBody("nobody came")
        word, ranks = paper(self.custom, self._counts)
        if word == "split":
            raise NoSay("the crowd is split")
        done = []
        while ranks[self._counts] > 0:
            done.append(self._lesser(ranks))
            self._do(done[-1])
        return done

    def mark(self):
        """Tell the number of a mark at what is now."""
        self._refuse_while_going()
        return self._marks.told((self._counts, self._came, self._many_done))

    def back(self, number):
        """Let all be as it was when this mark was told."""
        self._refuse_while_going()
        self._counts, self._came, self._many_done = self._marks.gone_back_to(number)

    def copy(self):
        """Tell another keeper that is now as this one is, with its marks and chooser."""
        self._refuse_while_going()
        other = Keeper(self.custom, choose=self._choose)
        other._counts = self._counts
        other._came = self._came
        other._many_done = self._many_done
        other._marks = self._marks.copied()
        return other
