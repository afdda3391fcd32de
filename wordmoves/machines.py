"""Machines that tell words apart, and proofs by them that the start never becomes the goal."""

from wordmoves.actions import by_letter, taken_to
from wordmoves.weights import all_rows

MOST_LETTERS_FOR_THREE_STATES = 2


class Machine:
    """For each letter the next state of each state, and for each state 1 if it is good, else 0."""

    def __init__(self, action, goods):
        self.action = action
        self.goods = goods

    def accepts(self, word):
        return self.goods[taken_to(self.action, word, 0)] == 1


def machine_from(system, states, numbers):
    """The machine that the numbers tell, or None if they tell none of so many states."""
    size = states * len(system.letters)
    if len(numbers) != size + states:
        return None
    for state in numbers[:size]:
        if state < 0 or state >= states:
            return None
    for mark in numbers[size:]:
        if mark not in (0, 1):
            return None
    return Machine(action_from(system, numbers[:size]), numbers[size:])


def action_from(system, next_states):
    width = len(system.letters)
    return by_letter(system, [next_states[place::width] for place in range(width)])


def first_move_out(system, machine):
    """The first move under which the machine's words aren't closed, by its number, or None."""
    for number, move in enumerate(system.moves):
        if not are_kept(machine.goods, wanted_pairs(machine.action, [move])):
            return number
    return None


def are_kept(goods, pairs):
    for first, second in pairs:
        if goods[first] == 1 and goods[second] == 0:
            return False
    return True


def wanted_pairs(action, moves):
    """Pairs of states: words are closed under the moves just if, wherever the first is good, the second is, too."""
    reached = [group[0] for group in groups_behind(action, [(0,)])]
    inner = []
    last = []
    for move in moves:
        before = [0] if move.at_beginning else reached
        pairs = [(taken_to(action, move.left, state), taken_to(action, move.right, state)) for state in before]
        if move.at_end:
            last.extend(pairs)
        else:
            inner.extend(pairs)
    return groups_behind(action, inner) + last


def groups_behind(action, groups):
    """The groups of states, and all groups to which further letters take them, each once."""
    found = list(dict([(group, True) for group in groups]))
    done = 0
    while done < len(found):
        for row in action.values():
            following = tuple([row[state] for state in found[done]])
            if following not in found:
                found.append(following)
        done += 1
    return found


def first_proof(system):
    """How many states, and the numbers of the first machine sought that is a proof; or None."""
    for states in range(1, most_states(system) + 1):
        found = first_proof_of(system, states)
        if found is not None:
            return (states, found)
    return None


def most_states(system):
    return 3 if len(system.letters) <= MOST_LETTERS_FOR_THREE_STATES else 2


def first_proof_of(system, states):
    all_goods = all_rows(states, [0, 1])
    for next_states in all_rows(states * len(system.letters), list(range(states))):
        action = action_from(system, next_states)
        first = taken_to(action, system.start, 0)
        second = taken_to(action, system.goal, 0)
        # Whatever states are good then, it is no proof; that spares the costly part.
        if first == second:
            continue
        pairs = wanted_pairs(action, system.moves)
        for goods in all_goods:
            if goods[first] == 1 and goods[second] == 0 and are_kept(goods, pairs):
                return next_states + goods
    return None
