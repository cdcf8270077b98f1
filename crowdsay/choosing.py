"""Choosers by their words: which one of the rows that can be done is done next."""


def chosen(word, crowd, numbers):
    """Tell the number among these that the chooser of this word ("least", "last", "even") tells of the crowd."""
    if word == "least":
        return min(numbers)
    if word == "last":
        return max(numbers)
    return numbers[sum(crowd) % len(numbers)]
