"""Systems of moves, and what a move makes of a word. Words are texts of small letters."""

MOST_LETTERS = 12


class Move:
    def __init__(self, left, right, at_beginning, at_end):
        self.left = left
        self.right = right
        self.at_beginning = at_beginning
        self.at_end = at_end


class System:
    def __init__(self, letters):
        self.letters = letters
        self.moves = []
        self.start = None
        self.goal = None


def codes_of(text):
    return [ord(sign) for sign in text]


def word_from(system, codes):
    """The word that has these bytes, or None if it is no word of the system that may be handed in."""
    if len(codes) > MOST_LETTERS:
        return None
    known = codes_of(system.letters)
    for code in codes:
        if code not in known:
            return None
    return "".join([system.letters[known.index(code)] for code in codes])


def standing_places(move, word):
    """The places at which the left word stands as the move asks, however long the given word is."""
    last = len(word) - len(move.left)
    if last < 0:
        return []
    lowest = last if move.at_end else 0
    highest = 0 if move.at_beginning else last
    return [place for place in range(lowest, highest + 1) if word.startswith(move.left, place)]


def given_length(move, word):
    return len(word) - len(move.left) + len(move.right)


def given_word(move, place, word):
    return word[:place] + move.right + word[place + len(move.left):]


def possible_places(move, word):
    """The places at which the move can be made."""
    if given_length(move, word) > MOST_LETTERS:
        return []
    return standing_places(move, word)
