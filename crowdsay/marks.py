"""Marks: what was at some times, by numbers, so that all can be again as it was then."""

from crowdsay.errors import NoMark


class Marks:
    """The marks that were told, of what never changes by itself."""

    def __init__(self, marked):
        self._marked = list(marked)

    def told(self, now):
        """Tell the number of a new mark, at which is what is now."""
        self._marked.append(now)
        return len(self._marked) - 1

    def gone_back_to(self, number):
        """Tell what was at the mark, and forget all marks behind it."""
        if not 0 <= number < len(self._marked):
            raise NoMark(number)
        del self._marked[number + 1:]
        return self._marked[number]

    def copied(self):
        """Tell the same marks once more."""
        return Marks(self._marked)
