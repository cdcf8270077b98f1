"""Shares: exact parts of whole numbers."""

from math import gcd

from crowdsay.errors import NoShare


class Share:
    """A share, kept without a common part and with a bottom above 0; it stays as it is made."""

    def __init__(self, top, bottom=1):
        if bottom == 0:
            raise NoShare(top)
        part = gcd(top, bottom)
        if bottom < 0:
            part = -part
        self.top = top // part
        self.bottom = bottom // part

    def __eq__(self, other):
        return isinstance(other, Share) and self.top == other.top and self.bottom == other.bottom

    def __str__(self):
        if self.bottom == 1:
            return f"{self.top}"
        return f"{self.top}/{self.bottom}"

    def __repr__(self):
        return f"Share({self.top}, {self.bottom})"

    def plus(self, other):
        """Tell this share and the other one together."""
        return Share(self.top * other.bottom + other.top * self.bottom, self.bottom * other.bottom)

    def less(self, other):
        """Tell this share with the other one taken away."""
        return Share(self.top * other.bottom - other.top * self.bottom, self.bottom * other.bottom)

    def times(self, other):
        """Tell this share times the other one."""
        return Share(self.top * other.top, self.bottom * other.bottom)

    def by(self, other):
        """Tell this share divided by the other one, which isn't nought."""
        if other.top == 0:
            raise NoShare(self.top)
        return Share(self.top * other.bottom, self.bottom * other.top)
