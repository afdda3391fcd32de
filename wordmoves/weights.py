"""Weights of letters that stay under all moves, as they are or by what is left when divided, or that go down."""

# Of 2 to 12. What 6, 10 or 12 would part is parted before by one of the two coprime factors it has.
DIVISORS = (2, 3, 4, 5, 7, 8, 9, 11)
HEAVIEST_TRIED = 3


def letter_differences(letters, first, second):
    return [first.count(letter) - second.count(letter) for letter in letters]


def move_differences(system):
    """For each move and each letter, by how many letters the left word has more of it than the right one."""
    return [letter_differences(system.letters, move.left, move.right) for move in system.moves]


def weigh(weights, amounts):
    return sum([weight * amount for weight, amount in zip(weights, amounts)])


def common_divisor(numbers):
    found = 0
    for number in numbers:
        other = abs(number)
        while other != 0:
            rest = found % other
            found = other
            other = rest
    return found


def divided_out(row):
    divisor = common_divisor(row)
    if divisor < 2:
        return row
    return [number // divisor for number in row]


def without_column(row, pivot_row, column):
    """The row made 0 in the column by whole multiples of both rows."""
    kept = [number * pivot_row[column] for number in row]
    taken = [number * row[column] for number in pivot_row]
    return divided_out([first - second for first, second in zip(kept, taken)])


def reduced_rows(rows, width):
    """Pairs of a column and the one row that isn't 0 there; the row's earlier numbers are 0, too."""
    pairs = []
    remaining = rows
    for column in range(width):
        chosen = [row for row in remaining if row[column] != 0]
        if chosen == []:
            continue
        pivot = chosen[0]
        pairs = [(pair[0], without_column(pair[1], pivot, column)) for pair in pairs]
        remaining = [without_column(row, pivot, column) for row in remaining]
        pairs.append((column, pivot))
    return pairs


def staying_basis(system):
    width = len(system.letters)
    pairs = reduced_rows(move_differences(system), width)
    bound = [pair[0] for pair in pairs]
    return [basis_row(pairs, free, width) for free in range(width) if free not in bound]


def basis_row(pairs, free, width):
    scale = 1
    for column, row in pairs:
        scale = scale * abs(row[column])
    weights = [0] * width
    weights[free] = scale
    for column, row in pairs:
        weights[column] = -(row[free] * scale // row[column])
    return divided_out(weights)


def all_rows(width, choices):
    """All rows of so many of the choices, the first one's place slowest."""
    rows = [[]]
    for place in range(width):
        longer = []
        for row in rows:
            longer.extend([row + [choice] for choice in choices])
        rows = longer
    return rows


def parting_weights(system, first, second):
    """The divisor (0 for weights of the basis) and the weights by which two words are parted, or None."""
    difference = letter_differences(system.letters, first, second)
    for weights in staying_basis(system):
        if weigh(weights, difference) != 0:
            return (0, weights)
    moves = [amounts for amounts in move_differences(system) if any(amounts)]
    for divisor in DIVISORS:
        weights = parting_by_rest(moves, difference, divisor)
        if weights is not None:
            return (divisor, weights)
    return None


def parting_by_rest(moves, difference, divisor):
    if all([amount % divisor == 0 for amount in difference]):
        return None
    for weights in all_rows(len(difference), list(range(divisor))):
        if weigh(weights, difference) % divisor != 0 and stay_by_rest(weights, moves, divisor):
            return weights
    return None


def stay_by_rest(weights, moves, divisor):
    for amounts in moves:
        if weigh(weights, amounts) % divisor != 0:
            return False
    return True


def falling_weights(system):
    """The first weights that go down, or None."""
    moves = move_differences(system)
    for weights in all_rows(len(system.letters), list(range(HEAVIEST_TRIED + 1))):
        if go_down(weights, moves):
            return weights
    return None


def go_down(weights, moves):
    for amounts in moves:
        if weigh(weights, amounts) <= 0:
            return False
    return True
