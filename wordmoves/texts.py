"""Systems read from texts, and the one form in which they are written."""

from wordmoves.tokens import ENDS_EARLY, MISPLACED, NINTH_MOVE, SAID_TWICE, UNKNOWN_LETTER, WRONG_ROW
from wordmoves.tokens import Fault, Tokens
from wordmoves.words import Move, System

MOST_SYSTEM_LETTERS = 4
MOST_MOVES = 8


def system_from(text):
    """The system that the text tells; raises the text's first fault if it has one."""
    tokens = Tokens(text)
    system = System(read_letters(tokens))
    token = tokens.take()
    while token.sign != "end":
        read_line(tokens, token, system)
        token = tokens.take()
    return system


def read_letters(tokens):
    token = tokens.take()
    if token.row != "letters":
        refuse(token)
    token = tokens.take()
    if token.sign != "row":
        refuse(token)
    if len(token.row) > MOST_SYSTEM_LETTERS or len(set(token.row)) != len(token.row):
        raise Fault(WRONG_ROW, token.place)
    expect(tokens.take(), ";")
    return token.row


def read_line(tokens, token, system):
    """Reads what the token begins, to its semicolon, into the system."""
    if token.row == "move":
        if len(system.moves) == MOST_MOVES:
            raise Fault(NINTH_MOVE, token.place)
        system.moves.append(read_move(tokens, system))
    elif token.row == "start":
        if system.start is not None:
            raise Fault(SAID_TWICE, token.place)
        system.start = read_word(tokens.take(), system)
    elif token.row == "goal":
        if system.goal is not None:
            raise Fault(SAID_TWICE, token.place)
        system.goal = read_word(tokens.take(), system)
    else:
        refuse(token)
    expect(tokens.take(), ";")


def read_move(tokens, system):
    token = tokens.take()
    at_beginning = token.sign == "^"
    if at_beginning:
        token = tokens.take()
    left = read_word(token, system)
    token = tokens.take()
    at_end = token.sign == "$"
    if at_end:
        token = tokens.take()
    expect(token, "->")
    right = read_word(tokens.take(), system)
    return Move(left, right, at_beginning, at_end)


def read_word(token, system):
    if token.sign == ".":
        return ""
    if token.sign != "row":
        refuse(token)
    for letter in token.row:
        if letter not in system.letters:
            raise Fault(UNKNOWN_LETTER, token.place)
    return token.row


def expect(token, sign):
    if token.sign != sign:
        refuse(token)


def refuse(token):
    if token.sign == "end":
        raise Fault(ENDS_EARLY, token.place)
    raise Fault(MISPLACED, token.place)


def one_form(system):
    letters = system.letters
    if letters == "":
        return ""
    lines = [f"letters {letters};\n"]
    lines.extend([move_line(move) for move in system.moves])
    lines.extend(word_line("start", system.start))
    lines.extend(word_line("goal", system.goal))
    return "".join(lines)


def move_line(move):
    beginning = "^" if move.at_beginning else ""
    end = "$" if move.at_end else ""
    left = written_word(move.left)
    right = written_word(move.right)
    return f"move {beginning}{left}{end} -> {right};\n"


def word_line(name, word):
    if word is None:
        return []
    shown = written_word(word)
    return [f"{name} {shown};\n"]


def written_word(word):
    return "." if word == "" else word
