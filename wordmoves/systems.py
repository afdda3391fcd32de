"""The calls on an object that holds a system, and how they are told and answered in lists of numbers."""

from wordmoves.searches import search_within, way_to
from wordmoves.texts import one_form, system_from
from wordmoves.tokens import Fault
from wordmoves.weights import parting_weights, staying_basis
from wordmoves.words import MOST_LETTERS, System, codes_of, given_word, possible_places, word_from

NO_BYTE = -1
TEXT_TOO_LONG = -2
NO_MOVE = -3
NO_START = -6
OUT_OF_RANGE = -7
NO_GOAL = -8
NO_WORD = -12

LARGEST_BYTE = 255
LONGEST_TEXT = 4096


class Holder:
    def __init__(self):
        self.system = System("")


class CallReader:
    def __init__(self, calls):
        self.calls = calls
        self.reached = 0

    def is_at_end(self):
        return self.reached == len(self.calls)

    def take_number(self):
        self.reached += 1
        return self.calls[self.reached - 1]

    def take_row(self):
        size = self.take_number()
        self.reached += size
        return self.calls[self.reached - size:self.reached]


def answers(calls):
    holder = Holder()
    reader = CallReader(calls)
    given = []
    while not reader.is_at_end():
        answer = answer_next(holder, reader)
        given.append(len(answer))
        given.extend(answer)
    return given


def answer_next(holder, reader):
    call = reader.take_number()
    system = holder.system
    if call == 0:
        return load(holder, reader.take_row())
    if call == 1:
        return written(system)
    if call == 2:
        return step(system, reader.take_number(), reader.take_number(), reader.take_row())
    if call == 3:
        return steps(system, reader.take_row())
    if call == 4:
        return search(system, reader.take_number())
    if call == 5:
        return way(system, reader.take_number())
    if call == 6:
        return reach(system, reader.take_number(), reader.take_row())
    if call == 7:
        return weights(system)
    if call == 8:
        return parted(system)
    raise NotImplementedError("no such call")


def load(holder, text):
    for number in text:
        if number < 0 or number > LARGEST_BYTE:
            return [NO_BYTE]
    if len(text) > LONGEST_TEXT:
        return [TEXT_TOO_LONG]
    try:
        holder.system = system_from(text)
    except Fault as fault:
        return [1, fault.kind, fault.place]
    return [0]


def written(system):
    return [0] + codes_of(one_form(system))


def step(system, number, place, codes):
    word = word_from(system, codes)
    if word is None:
        return [NO_WORD]
    if number < 0 or number >= len(system.moves):
        return [NO_MOVE]
    move = system.moves[number]
    if place not in possible_places(move, word):
        return [1]
    return [0] + codes_of(given_word(move, place, word))


def steps(system, codes):
    word = word_from(system, codes)
    if word is None:
        return [NO_WORD]
    count = 0
    told = []
    for number, move in enumerate(system.moves):
        for place in possible_places(move, word):
            count += 1
            told.extend([number, place])
            told.extend(counted_codes(given_word(move, place, word)))
    return [0, count] + told


def counted_codes(word):
    return [len(word)] + codes_of(word)


def search_refusal(system, length):
    """The refusal that is due to any search within the length, or 0."""
    if length < 0 or length > MOST_LETTERS:
        return OUT_OF_RANGE
    if system.start is None:
        return NO_START
    return 0


def search(system, length):
    refusal = search_refusal(system, length)
    if refusal < 0:
        return [refusal]
    found = search_within(system, length)
    outcome = 0
    if found.broken_off:
        outcome = 2
    elif found.left_open:
        outcome = 1
    return [outcome, len(found.words)] + found.level_counts


def way(system, length):
    if system.goal is None:
        return [NO_GOAL]
    return way_or_refusal(system, length, system.goal)


def reach(system, length, codes):
    word = word_from(system, codes)
    if word is None:
        return [NO_WORD]
    return way_or_refusal(system, length, word)


def way_or_refusal(system, length, word):
    refusal = search_refusal(system, length)
    if refusal < 0:
        return [refusal]
    found = search_within(system, length)
    if word not in found.numbers:
        return [1 if found.is_closed() else 2]
    pairs = way_to(found, word)
    told = [0, len(pairs)]
    for pair in pairs:
        told.extend(pair)
    return told


def weights(system):
    basis = staying_basis(system)
    told = [0, len(basis)]
    for row in basis:
        told.extend(row)
    return told


def parted(system):
    if system.start is None:
        return [NO_START]
    if system.goal is None:
        return [NO_GOAL]
    found = parting_weights(system, system.start, system.goal)
    if found is None:
        return [1]
    return [0, found[0]] + found[1]
