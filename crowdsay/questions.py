"""Questions of some and all: whether they hold, by which number, and how they are put plainly."""

from crowdsay.along import bits_along, leaves_of, period_of
from crowdsay.dropping import without_last
from crowdsay.forms import not_form, sentence_of
from crowdsay.onecount import without_last_of_two
from crowdsay.sentences import many_of
from crowdsay.sums import worth_of


def _asked(question):
    # All are such where there is none that isn't: of both it is asked by which number a sentence is so.
    word, sentence = question
    return sentence if word == "some" else ("not", sentence)


def _beginnings(leaves, start, step):
    """Tell, rising, the steps from which on leasts among the leaves are so, or no more so, 0 ahead."""
    found = {0: True}
    for leaf in leaves:
        rise = worth_of(leaf[1], step)
        if leaf[0] == "least" and rise != 0:
            over = worth_of(leaf[1], start) - leaf[2]
            first = -(over // rise) if rise > 0 else over // -rise + 1
            found[max(0, first)] = True
    return sorted(found)


def witness(question, counts):
    """Tell the least number behind the counts by which the question's sentence is so (of an all: isn't), or None."""
    sentence = _asked(question)
    leaves = leaves_of(sentence)
    step = [0] * len(counts) + [1]
    period = period_of(leaves, step)
    beginnings = _beginnings(leaves, [*counts, 0], step)
    for begin, end in zip(beginnings, [*beginnings[1:], beginnings[-1] + period]):
        bits = bits_along(sentence, [*counts, begin], step, min(period, end - begin))
        if bits != 0:
            return begin + (bits & -bits).bit_length() - 1
    return None


def holds(question, counts):
    """Tell whether the question holds of the counts."""
    is_found = witness(question, counts) is not None
    return is_found == (question[0] == "some")


def plainly(question):
    """Tell a sentence that is so of just the counts of which the question holds."""
    many = many_of(question[1]) - 1
    sentence = _asked(question)
    form = without_last_of_two(sentence) if many == 1 else None
    if form is None:
        form = without_last(sentence, many)
    return sentence_of(form if question[0] == "some" else not_form(form), many)
