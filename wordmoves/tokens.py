"""The tokens of a text, one at a time, and the faults that a text can have."""

from wordmoves.words import MOST_LETTERS

NO_TOKEN = 1
WRONG_ROW = 2
MISPLACED = 3
ENDS_EARLY = 4
NINTH_MOVE = 5
SAID_TWICE = 6
UNKNOWN_LETTER = 7

ALPHABET = "abcdefghijklmnopqrstuvwxyz"
FIRST_LETTER = 97
LAST_LETTER = 122
LINE_FEED = 10
REMARK = 35
BLANKS = (9, 10, 13, 32)
ARROW = (45, 62)
SIGNS = {36: "$", 46: ".", 59: ";", 94: "^"}


class Fault(Exception):
    def __init__(self, kind, place):
        self.kind = kind
        self.place = place


class Token:
    """A sign, or "row" with the row's letters, or "end" where the text ends; behind is where it stops."""

    def __init__(self, sign, letters, place, behind):
        self.sign = sign
        self.row = letters
        self.place = place
        self.behind = behind


class Tokens:
    """Gives tokens only when asked, so that what is wrong further on can't be told before what is wrong here."""

    def __init__(self, text):
        self.text = text
        self.reached = 0

    def take(self):
        token = token_at(self.text, place_behind_blanks(self.text, self.reached))
        self.reached = token.behind
        return token


def place_behind_blanks(text, place):
    in_remark = False
    while place < len(text):
        byte = text[place]
        if byte == LINE_FEED:
            in_remark = False
        elif byte == REMARK:
            in_remark = True
        elif not in_remark and byte not in BLANKS:
            break
        place += 1
    return place


def token_at(text, place):
    if place == len(text):
        return Token("end", "", place, place)
    byte = text[place]
    if is_letter(byte):
        return row_at(text, place)
    if byte in SIGNS:
        return Token(SIGNS[byte], "", place, place + 1)
    if tuple(text[place:place + 2]) == ARROW:
        return Token("->", "", place, place + 2)
    raise Fault(NO_TOKEN, place)


def is_letter(byte):
    return FIRST_LETTER <= byte <= LAST_LETTER


def row_at(text, place):
    behind = place
    while behind < len(text) and is_letter(text[behind]):
        behind += 1
    if behind - place > MOST_LETTERS:
        raise Fault(WRONG_ROW, place)
    letters = [ALPHABET[byte - FIRST_LETTER] for byte in text[place:behind]]
    return Token("row", "".join(letters), place, behind)
