"""Letters that act on points, and what words do by them. A turn's points and a machine's states are such points."""


def by_letter(system, rows):
    """The rows, one for each letter, in a dict by the letters."""
    return dict(zip(system.letters, rows))


def taken_to(action, word, point):
    """Where the word takes the point; the action tells for each letter to which point each goes."""
    for letter in word:
        point = action[letter][point]
    return point
