"""Normal words, the meetings of two moves, and ends that are unique, for moves that stand anywhere and go down."""

from wordmoves.words import given_word, standing_places


class Meeting:
    """The numbers of two moves, the word in which they meet, and what each of the two makes of it."""

    def __init__(self, first, second, word, by_first, by_second):
        self.first = first
        self.second = second
        self.word = word
        self.by_first = by_first
        self.by_second = by_second


def first_step(system, word):
    """The word that the first step gives, or None if there is none."""
    for move in system.moves:
        place = word.find(move.left)
        if place >= 0:
            return given_word(move, place, word)
    return None


def first_steps(system, word):
    """All words on the way to the normal word, which is the last one, the word itself ahead."""
    words = [word]
    following = first_step(system, word)
    while following is not None:
        words.append(following)
        following = first_step(system, following)
    return words


def normal_word(system, word):
    return first_steps(system, word)[-1]


def meetings(system):
    found = []
    for first in range(len(system.moves)):
        for second in range(len(system.moves)):
            found.extend(meetings_within(system, first, second))
            found.extend(meetings_by_overlap(system, first, second))
    return found


def meetings_within(system, first, second):
    """The meetings in which the second move's left word stands within the first one's."""
    # A left word stands in itself at 0 alone, and there a move doesn't meet itself.
    if first == second:
        return []
    outer = system.moves[first]
    inner = system.moves[second]
    word = outer.left
    return [Meeting(first, second, word, outer.right, given_word(inner, place, word))
            for place in standing_places(inner, word)]


def meetings_by_overlap(system, first, second):
    """The meetings in which the first move's left word ends with letters with which the second one's begins."""
    ahead = system.moves[first]
    behind = system.moves[second]
    found = []
    for shared in range(1, min(len(ahead.left), len(behind.left))):
        place = len(ahead.left) - shared
        if behind.left.startswith(ahead.left[place:]):
            word = ahead.left + behind.left[shared:]
            found.append(Meeting(first, second, word, given_word(ahead, 0, word), given_word(behind, place, word)))
    return found


def first_parting(system):
    """The first meeting whose two words have unlike normal words, or None if ends are unique."""
    for meeting in meetings(system):
        if normal_word(system, meeting.by_first) != normal_word(system, meeting.by_second):
            return meeting
    return None
