"""The search for all words that come from a system's start within a length."""

from wordmoves.words import given_length, given_word, standing_places

MOST_FOUND = 300


class Search:
    """What was found: words in order, how each was found (None for the first), and how many on each level."""

    def __init__(self):
        self.words = []
        self.numbers = {}
        self.origins = []
        self.levels = []
        self.level_counts = []
        self.left_open = False
        self.broken_off = False

    def note_word(self, word, level, origin):
        self.numbers[word] = len(self.words)
        self.words.append(word)
        self.origins.append(origin)
        self.levels.append(level)
        if level == len(self.level_counts):
            self.level_counts.append(0)
        self.level_counts[level] += 1

    def is_closed(self):
        return not self.left_open and not self.broken_off


def search_within(system, length):
    search = Search()
    if len(system.start) > length:
        search.left_open = True
        return search
    search.note_word(system.start, 0, None)
    number = 0
    while number < len(search.words) and not search.broken_off:
        go_through(search, system, number, length)
        number += 1
    return search


def go_through(search, system, number, length):
    word = search.words[number]
    for index, move in enumerate(system.moves):
        places = standing_places(move, word)
        # No length is beyond 12, so a word too long for any move to give is longer than the length too.
        if given_length(move, word) > length:
            search.left_open = search.left_open or len(places) > 0
            continue
        for place in places:
            given = given_word(move, place, word)
            if given in search.numbers:
                continue
            if len(search.words) == MOST_FOUND:
                search.broken_off = True
                return
            search.note_word(given, search.levels[number] + 1, (number, index, place))


def way_to(search, word):
    """The moves and places by which a found word was found, as pairs, from the first word on."""
    pairs = []
    origin = search.origins[search.numbers[word]]
    while origin is not None:
        pairs.append((origin[1], origin[2]))
        origin = search.origins[origin[0]]
    return list(reversed(pairs))
