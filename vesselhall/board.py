"""The board: numbers by which rows are worth no more than nought, or what shows that there are none.

A board has a line for each of its rows. A line is an equation: the numbers of the row, then one number for what each
row leaves unused, then its end. The unknowns are from 0 on, and each line has one of them for its own, its holder,
which stands in no other line; the others are taken as 0.
"""

from vesselhall.fractions import least_multiple
from vesselhall.rows import common_divisor, lowest, opposite, opposites, unit_rows


def first_board(rows, ends):
    units = unit_rows(len(rows))
    return [list(row) + unit + [end] for row, unit, end in zip(rows, units, ends)]


def short_line(board, holders):
    short = [holder for line, holder in zip(board, holders) if line[-1] < 0]
    if len(short) == 0:
        return None
    return holders.index(min(short))


def place_below_nought(line):
    for place, number in enumerate(line[:-1]):
        if number < 0:
            return place
    return None


def line_without(line, head, place):
    # The head's number there is above 0, so no other line's holder changes its sign.
    rest = [head[place] * number - line[place] * other for number, other in zip(line, head)]
    divisor = common_divisor(rest)
    return [number // divisor for number in rest]


def passed_on(board, at, place):
    # The line has a number below 0 there, and its new holder is to have one above.
    head = opposite(board[at])
    return [head if number == at else line_without(line, head, place) for number, line in enumerate(board)]


def numbers_on(board, holders, size):
    bottom = 1
    for line, holder in zip(board, holders):
        bottom = least_multiple(bottom, line[holder])
    numbers = [0] * size
    for line, holder in zip(board, holders):
        if holder < size:
            numbers[holder] = line[-1] * bottom // line[holder]
    return lowest(numbers)


def settled(rows, wants):
    """(True, numbers from 0 on) by which no row is worth more than 0 and each want 1 or more; or (False, times).

    The times are from 0 on, one for each row: so many times the rows come, at each place, to no less than the wants
    do some times from 0 on, not all of them 0.
    """
    size = len(wants[0])
    board = first_board(rows + opposites(wants), [0] * len(rows) + [-1] * len(wants))
    holders = list(range(size, size + len(board)))
    at = short_line(board, holders)
    while at is not None:
        place = place_below_nought(board[at])
        if place is None:
            # A line with nothing below 0 but its end: what it is made of is told by the numbers of the unused.
            return (False, board[at][size:size + len(rows)])
        # Always the first unknown that will do: so no board comes a second time, and this ends.
        board = passed_on(board, at, place)
        holders[at] = place
        at = short_line(board, holders)
    return (True, numbers_on(board, holders, size))


def balanced(rows, wants):
    """As settled, but with each row worth just 0; the times may be below 0."""
    told = settled(rows + opposites(rows), wants)
    if told[0]:
        return told
    forward = told[1][:len(rows)]
    back = told[1][len(rows):]
    return (False, [one - two for one, two in zip(forward, back)])
