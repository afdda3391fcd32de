"""Turns of points, one for each letter, that stay under all moves, and what they turn apart."""

from wordmoves.actions import by_letter, taken_to
from wordmoves.weights import all_rows

POINTS_TRIED = (2, 3)


def turns_from(system, points, numbers):
    """The turns that the numbers tell, letter by letter, or None if they aren't a turn for each letter."""
    if len(numbers) != points * len(system.letters):
        return None
    rows = [numbers[place:place + points] for place in range(0, len(numbers), points)]
    for row in rows:
        if sorted(row) != list(range(points)):
            return None
    return rows


def all_turns(system, points):
    """All turns of all letters, in order."""
    turns = [row for row in all_rows(points, list(range(points))) if len(set(row)) == points]
    return all_rows(len(system.letters), turns)


def are_apart(action, points, first, second):
    for point in range(points):
        if taken_to(action, first, point) != taken_to(action, second, point):
            return True
    return False


def first_parted_move(system, points, rows):
    """The first move whose words the turns take apart, by its number, or None if the turns stay."""
    action = by_letter(system, rows)
    for number, move in enumerate(system.moves):
        if are_apart(action, points, move.left, move.right):
            return number
    return None


def turn_apart(system, points, rows):
    """Whether start and goal are turned apart."""
    return are_apart(by_letter(system, rows), points, system.start, system.goal)


def staying_turns(system, points):
    return [rows for rows in all_turns(system, points) if first_parted_move(system, points, rows) is None]


def first_turns_apart(system):
    """How many points, and the first turns that stay and turn start and goal apart; or None."""
    for points in POINTS_TRIED:
        for rows in all_turns(system, points):
            if turn_apart(system, points, rows) and first_parted_move(system, points, rows) is None:
                return (points, rows)
    return None
