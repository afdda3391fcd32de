"""The calls on an object that holds a system, and how they are told and answered in lists of numbers."""

from wordmoves.machines import first_move_out, first_proof, machine_from
from wordmoves.normals import first_parting, first_steps, normal_word
from wordmoves.searches import search_within, way_to
from wordmoves.texts import one_form, system_from
from wordmoves.tokens import Fault
from wordmoves.turns import all_turns, first_parted_move, first_turns_apart, staying_turns, turn_apart, turns_from
from wordmoves.weights import falling_weights, parting_weights, staying_basis
from wordmoves.words import MOST_LETTERS, System, codes_of, given_word, possible_places, word_from

NO_BYTE = -1
TEXT_TOO_LONG = -2
NO_MOVE = -3
NO_START = -6
OUT_OF_RANGE = -7
NO_GOAL = -8
BOUND_MOVE = -9
NO_SUCH_LIST = -11
NO_WORD = -12

LARGEST_BYTE = 255
LONGEST_TEXT = 4096
MOST_POINTS_COUNTED = 3
MOST_POINTS = 4
MOST_STATES = 4


class Holder:
    def __init__(self):
        self.system = System("")


class CallReader:
    def __init__(self, calls):
        self.calls = calls
        self.reached = 0

    def is_at_end(self):
        return self.reached == len(self.calls)

    def take_number(self):
        self.reached += 1
        return self.calls[self.reached - 1]

    def take_row(self):
        size = self.take_number()
        self.reached += size
        return self.calls[self.reached - size:self.reached]


def answers(calls):
    holder = Holder()
    reader = CallReader(calls)
    given = []
    while not reader.is_at_end():
        answer = answer_next(holder, reader)
        given.append(len(answer))
        given.extend(answer)
    return given


def answer_next(holder, reader):
    call = reader.take_number()
    if call == 0:
        return load(holder, reader.take_row())
    if call <= 6:
        return answer_about_ways(holder.system, call, reader)
    if call <= 13:
        return answer_about_proofs(holder.system, call, reader)
    return answer_about_ends(holder.system, call, reader)


def answer_about_ways(system, call, reader):
    if call == 1:
        return written(system)
    if call == 2:
        return step(system, reader.take_number(), reader.take_number(), reader.take_row())
    if call == 3:
        return steps(system, reader.take_row())
    if call == 4:
        return search(system, reader.take_number())
    if call == 5:
        return way(system, reader.take_number())
    return reach(system, reader.take_number(), reader.take_row())


def answer_about_proofs(system, call, reader):
    if call == 7:
        return weights(system)
    if call == 8:
        return parted(system)
    if call == 9:
        return turns(system, reader.take_number())
    if call == 10:
        return turned(system)
    if call == 11:
        return keeps(system, reader.take_number(), reader.take_row())
    if call == 12:
        return machine(system, reader.take_number(), reader.take_row())
    return seek(system)


def answer_about_ends(system, call, reader):
    if call == 14:
        return down(system)
    if call == 15:
        return unique(system)
    if call == 16:
        return normal(system, reader.take_row())
    return same(system, reader.take_row(), reader.take_row())


def load(holder, text):
    for number in text:
        if number < 0 or number > LARGEST_BYTE:
            return [NO_BYTE]
    if len(text) > LONGEST_TEXT:
        return [TEXT_TOO_LONG]
    try:
        holder.system = system_from(text)
    except Fault as fault:
        return [1, fault.kind, fault.place]
    return [0]


def written(system):
    return [0] + codes_of(one_form(system))


def step(system, number, place, codes):
    word = word_from(system, codes)
    if word is None:
        return [NO_WORD]
    if number < 0 or number >= len(system.moves):
        return [NO_MOVE]
    move = system.moves[number]
    if place not in possible_places(move, word):
        return [1]
    return [0] + codes_of(given_word(move, place, word))


def steps(system, codes):
    word = word_from(system, codes)
    if word is None:
        return [NO_WORD]
    count = 0
    told = []
    for number, move in enumerate(system.moves):
        for place in possible_places(move, word):
            count += 1
            told.extend([number, place])
            told.extend(counted_codes(given_word(move, place, word)))
    return [0, count] + told


def counted_codes(word):
    return [len(word)] + codes_of(word)


def search_refusal(system, length):
    """The refusal that is due to any search within the length, or 0."""
    if length < 0 or length > MOST_LETTERS:
        return OUT_OF_RANGE
    if system.start is None:
        return NO_START
    return 0


def search(system, length):
    refusal = search_refusal(system, length)
    if refusal < 0:
        return [refusal]
    found = search_within(system, length)
    outcome = 0
    if found.broken_off:
        outcome = 2
    elif found.left_open:
        outcome = 1
    return [outcome, len(found.words)] + found.level_counts


def way(system, length):
    if system.goal is None:
        return [NO_GOAL]
    return way_or_refusal(system, length, system.goal)


def reach(system, length, codes):
    word = word_from(system, codes)
    if word is None:
        return [NO_WORD]
    return way_or_refusal(system, length, word)


def way_or_refusal(system, length, word):
    refusal = search_refusal(system, length)
    if refusal < 0:
        return [refusal]
    found = search_within(system, length)
    if word not in found.numbers:
        return [1 if found.is_closed() else 2]
    pairs = way_to(found, word)
    told = [0, len(pairs)]
    for pair in pairs:
        told.extend(pair)
    return told


def weights(system):
    basis = staying_basis(system)
    told = [0, len(basis)]
    for row in basis:
        told.extend(row)
    return told


def refusal_without_both(system):
    """The refusal that is due where a start and a goal are wanted, or 0."""
    if system.start is None:
        return NO_START
    if system.goal is None:
        return NO_GOAL
    return 0


def parted(system):
    refusal = refusal_without_both(system)
    if refusal < 0:
        return [refusal]
    found = parting_weights(system, system.start, system.goal)
    if found is None:
        return [1]
    return [0, found[0]] + found[1]


def turns(system, points):
    if points < 1 or points > MOST_POINTS_COUNTED:
        return [OUT_OF_RANGE]
    return [0, len(all_turns(system, points)), len(staying_turns(system, points))]


def turned(system):
    refusal = refusal_without_both(system)
    if refusal < 0:
        return [refusal]
    found = first_turns_apart(system)
    if found is None:
        return [1]
    told = [0, found[0]]
    for row in found[1]:
        told.extend(row)
    return told


def keeps(system, points, numbers):
    if points < 1 or points > MOST_POINTS:
        return [OUT_OF_RANGE]
    rows = turns_from(system, points, numbers)
    if rows is None:
        return [NO_SUCH_LIST]
    number = first_parted_move(system, points, rows)
    if number is not None:
        return [1, number]
    if refusal_without_both(system) < 0:
        return [0, 0]
    return [0, 1 if turn_apart(system, points, rows) else 0]


def machine(system, states, numbers):
    refusal = refusal_without_both(system)
    if refusal < 0:
        return [refusal]
    if states < 1 or states > MOST_STATES:
        return [OUT_OF_RANGE]
    told = machine_from(system, states, numbers)
    if told is None:
        return [NO_SUCH_LIST]
    if not told.accepts(system.start):
        return [1]
    number = first_move_out(system, told)
    if number is not None:
        return [2, number]
    return [3 if told.accepts(system.goal) else 0]


def seek(system):
    refusal = refusal_without_both(system)
    if refusal < 0:
        return [refusal]
    found = first_proof(system)
    if found is None:
        return [1]
    return [0, found[0]] + found[1]


def down(system):
    found = falling_weights(system)
    if found is None:
        return [1]
    return [0] + found


def hindrance_to_ends(system):
    """What is answered instead if the moves give no normal words, the refusal or 2; else 0."""
    for move in system.moves:
        if move.at_beginning or move.at_end:
            return BOUND_MOVE
    return 2 if falling_weights(system) is None else 0


def unique(system):
    hindrance = hindrance_to_ends(system)
    if hindrance != 0:
        return [hindrance]
    meeting = first_parting(system)
    if meeting is None:
        return [0]
    told = [1, meeting.first, meeting.second]
    for word in (meeting.word, normal_word(system, meeting.by_first), normal_word(system, meeting.by_second)):
        told.extend(counted_codes(word))
    return told


def normal(system, codes):
    word = word_from(system, codes)
    if word is None:
        return [NO_WORD]
    hindrance = hindrance_to_ends(system)
    if hindrance != 0:
        return [hindrance]
    words = first_steps(system, word)
    return [0, len(words) - 1] + counted_codes(words[-1])


def same(system, codes, other_codes):
    word = word_from(system, codes)
    other = word_from(system, other_codes)
    if word is None or other is None:
        return [NO_WORD]
    hindrance = hindrance_to_ends(system)
    if hindrance != 0:
        return [hindrance]
    if first_parting(system) is not None:
        return [3]
    return [1 if normal_word(system, word) == normal_word(system, other) else 0]
