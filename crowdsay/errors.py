"""The refusals of all stages; no one of them stands under another, so that each is caught by itself."""


class NoCustom(ValueError):
    """Four things make no custom; fault is the word that tells why."""

    def __init__(self, fault):
        ValueError.__init__(self, f"no custom: {fault}")
        self.fault = fault


class NoMeeting(IndexError):
    """A row can't be done; place is where in the list its number stands."""

    def __init__(self, place):
        IndexError.__init__(self, f"no meeting at place {place}")
        self.place = place


class TooMany(OverflowError):
    """There are more than most of what was asked for."""

    def __init__(self, most):
        OverflowError.__init__(self, f"more than {most}")
        self.most = most


class NoShare(ZeroDivisionError):
    """A share of a bottom 0, or one divided by nought; top is the top of it."""

    def __init__(self, top):
        ZeroDivisionError.__init__(self, f"no share of {top} by 0")
        self.top = top


class NoText(ValueError):
    """Nothing is written as this text; line is the first wrong line's number, or 0."""

    def __init__(self, line):
        ValueError.__init__(self, f"not to be read, line {line}")
        self.line = line


class NoGate(KeyError):
    """No gate has this word."""

    def __init__(self, word):
        KeyError.__init__(self, f"no gate {word}")
        self.word = word


class NoMark(LookupError):
    """A mark of this number was never told, or is forgotten."""

    def __init__(self, number):
        LookupError.__init__(self, f"no mark {number}")
        self.number = number


class NoFolk(IndexError):
    """This number is nobody's."""

    def __init__(self, number):
        IndexError.__init__(self, f"nobody has number {number}")
        self.number = number


class NoKin(TypeError):
    """A throng was made for another sentence."""


class NoSay(RuntimeError):
    """A crowd is split."""


class NoTurn(RuntimeError):
    """A keeper is going on, and shut till then."""


class NoStand(RuntimeError):
    """No custom stands at the desk."""


class NoBody(LookupError):
    """Nobody came."""


class NoRow(ValueError):
    """A desk's row is none."""
