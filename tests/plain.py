"""What tests of several files need: sentences of all sorts, and plain ways to find what the program is to tell."""

import itertools
import random

from crowdsay.meetings import behind, can_be_done


def leaf_of(chance, many):
    """A least or a rest of so many weights, within the document's bounds."""
    weights = tuple([chance.randint(-3, 3) for _ in range(many)])
    if chance.random() < 0.6:
        return ("least", weights, chance.randint(-4, 4))
    parts = chance.randint(2, 5)
    return ("rest", weights, parts, chance.randrange(parts))


def sentence_of(chance, many, around):
    """A sentence of so many weights, within which none stands within more than so many others."""
    if around == 0 or chance.random() < 0.25:
        return leaf_of(chance, many)
    if chance.random() < 0.2:
        return ("not", sentence_of(chance, many, around - 1))
    parts = [sentence_of(chance, many, around - 1) for _ in range(2)]
    return (chance.choice(["and", "or"]), *parts)


def sentences(seed, times, around=2):
    """So many sentences, the same ones for each seed."""
    chance = random.Random(seed)
    return [sentence_of(chance, 1 + time % 3, chance.randint(0, around)) for time in range(times)]


def leaves_of(sentence):
    if sentence[0] in ("least", "rest"):
        return [sentence]
    return [leaf for part in sentence[1:] for leaf in leaves_of(part)]


def is_plainly_so(sentence, counts):
    word, *parts = sentence
    if word == "not":
        return not is_plainly_so(parts[0], counts)
    if word in ("and", "or"):
        truths = [is_plainly_so(part, counts) for part in parts]
        return all(truths) if word == "and" else any(truths)
    worth = sum(weight * count for weight, count in zip(parts[0], counts))
    return worth >= parts[1] if word == "least" else (worth - parts[2]) % parts[1] == 0


def word_of(truth):
    return "yes" if truth else "no"


def s_of(leaf):
    return max([abs(weight) for weight in leaf[1]] + [abs(leaf[2]) + 1])


def most_kinds_for(sentence):
    """The most kinds that the document allows a custom made for the sentence."""
    word = sentence[0]
    if word == "least":
        return 3 * (2 * s_of(sentence) + 1)
    if word == "rest":
        return sentence[2] + 2
    if word == "not":
        return most_kinds_for(sentence[1])
    return most_kinds_for(sentence[1]) * most_kinds_for(sentence[2])


def counts_up_to(gates, most):
    """How many may come by each of so many gates, one or more and at most so many in all."""
    found = [counts for counts in itertools.product(range(most + 1), repeat=gates) if 1 <= sum(counts) <= most]
    return sorted(found, key=sum)


def crowd_by(custom, counts):
    """The crowd of which so many came by each gate."""
    crowd = [0] * len(custom.kinds)
    for (_, kind), count in zip(custom.gates, counts):
        crowd[custom.kinds.index(kind)] += count
    return tuple(crowd)


def walked(custom, crowd, most):
    """All crowds that come and where each leads to, or None where there are more than most."""
    leads = {}
    waiting = [crowd]
    while waiting:
        one = waiting.pop()
        if one in leads:
            continue
        if len(leads) == most:
            return None
        leads[one] = [behind(custom, one, number) for number in can_be_done(custom, one)]
        waiting.extend(leads[one])
    return leads


def _from_which(leads, ends):
    starts = {one: [] for one in leads}
    for one, comes in leads.items():
        for come in comes:
            starts[come].append(one)
    found = set(ends)
    waiting = list(ends)
    while waiting:
        for start in starts[waiting.pop()]:
            if start not in found:
                found.add(start)
                waiting.append(start)
    return found


def do_all_come_to_say(custom, leads, word):
    """Whether from each of these crowds there come ones from which on all say the word for good."""
    def is_otherwise(crowd):
        said = [word_of(kind in custom.yes) for kind, many in zip(custom.kinds, crowd) if many > 0]
        return any(one != word for one in said)

    unsure = _from_which(leads, [crowd for crowd in leads if is_otherwise(crowd)])
    sure = [crowd for crowd in leads if crowd not in unsure]
    return len(_from_which(leads, sure)) == len(leads)
