"""A desk: rows of words that are told to it are answered with texts."""

from crowdsay.customs import is_word
from crowdsay.errors import NoBody, NoRow, NoStand
from crowdsay.keeper import Keeper
from crowdsay.made import made_for
from crowdsay.means import mean
from crowdsay.rounds import says
from crowdsay.sentences import is_so, many_of, read_sentence
from crowdsay.sums import kept_sums
from crowdsay.texts import read_custom

_FIGURES = "0123456789"
_MOST_FIGURES = 3
_MOST_COME = 50
_BARE_WORDS = ("crowd", "say", "settle", "mark", "mean", "sums")


def _number_of(word):
    is_short = 1 <= len(word) <= _MOST_FIGURES and all([letter in _FIGURES for letter in word])
    if not is_short or (word[0] == "0" and word != "0"):
        raise NoRow(f"no number: {word}")
    return int(word)


def _read_come(words):
    if len(words) != 2 or not is_word(words[0]):
        raise NoRow("come WORD N")
    many = _number_of(words[1])
    if not 1 <= many <= _MOST_COME:
        raise NoRow(f"come WORD N, N from 1 to {_MOST_COME}")
    return words[0], many


def _read_meet(words):
    if not words:
        raise NoRow("meet N ..")
    return [_number_of(word) for word in words]


def _read_number(words):
    if len(words) != 1:
        raise NoRow("one number")
    return _number_of(words[0])


def _read_go(words):
    most = _read_number(words)
    if most == 0:
        raise NoRow("go N, from 1 on")
    return most


_READERS = {"come": _read_come, "meet": _read_meet, "go": _read_go, "back": _read_number}


def _read_row(row):
    """Tell the row's first word and what is told behind it, or refuse it by its words with NoRow."""
    for word, sign in (("custom", "\n"), ("make", " "), ("is", " ")):
        if row.startswith(word + sign):
            return word, row[len(word) + 1:]
    word, *words = row.split(" ")
    if word in _READERS:
        read = _READERS[word]
        return word, read(words)
    if word in _BARE_WORDS and not words:
        return word, None
    raise NoRow(f"no row: {row}")


def _refuse_nobody(keeper):
    if keeper.came() == 0:
        raise NoBody("nobody came")


def _rows_text(numbers):
    return " ".join([str(number) for number in numbers]) if numbers else "none"


def _answer_come(keeper, told):
    keeper.come(told[0], many=told[1])
    return "ok"


def _answer_meet(keeper, numbers):
    keeper.meet(numbers)
    return str(keeper)


def _answer_crowd(keeper, _):
    return str(keeper)


def _answer_go(keeper, most):
    return _rows_text(keeper.go(most=most))


def _answer_say(keeper, _):
    _refuse_nobody(keeper)
    return says(keeper.custom, keeper.crowd())


def _answer_settle(keeper, _):
    return _rows_text(keeper.settle())


def _answer_mark(keeper, _):
    return str(keeper.mark())


def _answer_back(keeper, number):
    keeper.back(number)
    return "ok"


def _answer_mean(keeper, _):
    _refuse_nobody(keeper)
    told = mean(keeper.custom, keeper.crowd())
    return "never" if told is None else str(told)


def _answer_sums(keeper, _):
    sums = [",".join([str(number) for number in numbers]) for numbers in kept_sums(keeper.custom)]
    return " ".join(sums)


def _answer_is(keeper, text):
    sentence = read_sentence(text)
    gates = keeper.custom.gates
    if many_of(sentence) != len(gates):
        raise NoRow("a sentence of other than as many weights as there are gates")
    return "yes" if is_so(sentence, [keeper.came(word) for word, _ in gates]) else "no"


_ANSWERS = {
    "come": _answer_come,
    "meet": _answer_meet,
    "crowd": _answer_crowd,
    "go": _answer_go,
    "say": _answer_say,
    "settle": _answer_settle,
    "mark": _answer_mark,
    "back": _answer_back,
    "mean": _answer_mean,
    "sums": _answer_sums,
    "is": _answer_is,
}


class Desk:
    """A desk, at which no custom stands yet."""

    def __init__(self):
        self._keeper = None
        self._many_told = 0

    def say(self, row):
        """Tell the answer to the row."""
        self._many_told += 1
        word, told = _read_row(row)
        if word == "custom":
            self._keeper = Keeper(read_custom(told))
            return "ok"
        if word == "make":
            self._keeper = Keeper(made_for(read_sentence(told)))
            return "ok"
        if self._keeper is None:
            raise NoStand("no custom stands")
        answer = _ANSWERS[word]
        return answer(self._keeper, told)

    def log(self):
        """Tell two pairs of each row that was told: (its number, "in"), (its number, "out")."""
        return [(number, word) for number in range(self._many_told) for word in ("in", "out")]
