"""Sentences about counts: whether they are so, and how they are written."""

from crowdsay.errors import NoText
from crowdsay.sums import worth_of

_MOST_AROUND = 2
_MOST_WEIGHTS = 3
_WEIGHTS = (-3, 3)
_BOUNDS = (-4, 4)
_PARTS = (2, 5)


def is_so(sentence, counts):
    """Tell whether the sentence is so of the counts."""
    word = sentence[0]
    if word == "and":
        return is_so(sentence[1], counts) and is_so(sentence[2], counts)
    if word == "or":
        return is_so(sentence[1], counts) or is_so(sentence[2], counts)
    if word == "not":
        return not is_so(sentence[1], counts)
    worth = worth_of(sentence[1], counts)
    if word == "least":
        return worth >= sentence[2]
    return worth % sentence[2] == sentence[3]


def many_of(sentence):
    """Tell how many weights the sentence has."""
    while sentence[0] not in ("least", "rest"):
        sentence = sentence[1]
    return len(sentence[1])


def show_sentence(sentence):
    """Tell the sentence's text."""
    word = sentence[0]
    if word == "not":
        return f"not {show_sentence(sentence[1])}"
    if word in ("and", "or"):
        return f"({show_sentence(sentence[1])} {word} {show_sentence(sentence[2])})"
    weights = ",".join([str(weight) for weight in sentence[1]])
    return " ".join([word, weights, *[str(number) for number in sentence[2:]]])


def _number_of(word, bounds):
    # Looked up among the few that there are: nothing else that Python may take for a number is one.
    least, greatest = bounds
    for number in range(least, greatest + 1):
        if str(number) == word:
            return number
    raise NoText(0)


def _weights_of(word):
    weights = tuple([_number_of(part, _WEIGHTS) for part in word.split(",")])
    if len(weights) > _MOST_WEIGHTS:
        raise NoText(0)
    return weights


class Words:
    """The words of a text, taken one behind the other."""

    def __init__(self, words):
        self.words = words
        self.place = 0

    def taken(self):
        """Tell the next word, and go on behind it."""
        if self.place == len(self.words):
            raise NoText(0)
        self.place += 1
        return self.words[self.place - 1]


def _read_leaf(word, words):
    weights = _weights_of(words.taken())
    if word == "least":
        return ("least", weights, _number_of(words.taken(), _BOUNDS))
    parts = _number_of(words.taken(), _PARTS)
    return ("rest", weights, parts, _number_of(words.taken(), (0, parts - 1)))


def _read_joined(words, around):
    left = _read_sentence(words, around)
    word = words.taken()
    if word not in ("and", "or"):
        raise NoText(0)
    right = _read_sentence(words, around)
    if words.taken() != ")":
        raise NoText(0)
    return (word, left, right)


def _read_sentence(words, around):
    if around > _MOST_AROUND:
        raise NoText(0)
    word = words.taken()
    if word == "not":
        return ("not", _read_sentence(words, around + 1))
    if word == "(":
        return _read_joined(words, around + 1)
    if word not in ("least", "rest"):
        raise NoText(0)
    return _read_leaf(word, words)


def _lengths_of(sentence):
    if sentence[0] in ("least", "rest"):
        return [len(sentence[1])]
    return [length for part in sentence[1:] for length in _lengths_of(part)]


def read_sentence(text):
    """Tell the sentence that is written as this text, or refuse it with NoText."""
    words = Words(text.replace("(", "( ").replace(")", " )").split(" "))
    sentence = _read_sentence(words, 0)
    lengths = _lengths_of(sentence)
    # Shown again it is the text, or blanks, brackets or whatever was behind weren't as it is written.
    if lengths != [lengths[0]] * len(lengths) or show_sentence(sentence) != text:
        raise NoText(0)
    return sentence
