"""Calls as lists of whole numbers, and answers taken apart again."""

from wordmoves.systems import answers


def bytes_of(text):
    return list(text.encode("latin-1")) if isinstance(text, str) else list(text)


def counted(text):
    numbers = bytes_of(text)
    return [len(numbers)] + numbers


def load(text):
    return [0] + counted(text)


def written():
    return [1]


def step(move, place, word):
    return [2, move, place] + counted(word)


def steps(word):
    return [3] + counted(word)


def search(length):
    return [4, length]


def way(length):
    return [5, length]


def reach(length, word):
    return [6, length] + counted(word)


def weights():
    return [7]


def parted():
    return [8]


def turns(points):
    return [9, points]


def turned():
    return [10]


def keeps(points, numbers):
    return [11, points] + counted(numbers)


def machine(states, numbers):
    return [12, states] + counted(numbers)


def seek():
    return [13]


def down():
    return [14]


def unique():
    return [15]


def normal(word):
    return [16] + counted(word)


def same(word, other):
    return [17] + counted(word) + counted(other)


def told(*words):
    """The words as an answer tells them with their lengths, one behind the other."""
    return [number for word in words for number in counted(word)]


def taken_apart(given):
    """The answers one by one; fails if the counts don't fit the list."""
    one_by_one = []
    at = 0
    while at < len(given):
        behind = at + 1 + given[at]
        if behind > len(given):
            raise AssertionError(f"a count reaches beyond the answers: {given}")
        one_by_one.append(given[at + 1:behind])
        at = behind
    return one_by_one


def ask(*calls):
    """The answers to calls on one new object, in order."""
    return taken_apart(answers([number for call in calls for number in call]))


def ask_loaded(text, *calls):
    """The answers to calls on an object that has loaded the text without a fault."""
    given = ask(load(text), *calls)
    if given[0] != [0]:
        raise AssertionError(f"{text!r} was not loaded: {given[0]}")
    return given[1:]


def form_of(text):
    """The one form of the system that the text tells, as a text."""
    answer = ask_loaded(text, written())[0]
    return bytes(answer[1:]).decode("latin-1")
