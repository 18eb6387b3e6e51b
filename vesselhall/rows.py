"""Rows of whole numbers: what they come to, their lowest terms, and which of them stand free."""

from vesselhall.fractions import greatest_divisor


def worth(row, pieces):
    return sum([number * many for number, many in zip(row, pieces)])


def column(rows, place):
    return [row[place] for row in rows]


def crossed(rows):
    return [column(rows, place) for place in range(len(rows[0]))]


def come_to(rows, numbers):
    return [worth(numbers, column(rows, place)) for place in range(len(rows[0]))]


def first_place(row):
    for place, number in enumerate(row):
        if number != 0:
            return place
    return None


def lowest(row):
    place = first_place(row)
    if place is None:
        return list(row)
    divisor = 0
    for number in row:
        divisor = greatest_divisor(divisor, number)
    if row[place] < 0:
        divisor = -divisor
    return [number // divisor for number in row]


def cleared(row, stairs):
    # Each stair is 0 where those ahead of it begin, so what one of them has cleared stays so.
    for stair in stairs:
        place = first_place(stair)
        row = lowest([stair[place] * number - row[place] * step for number, step in zip(row, stair)])
    return row


def sifted(rows):
    stairs = []
    free = []
    makers = []
    for place, row in enumerate(rows):
        # Behind its numbers each row bears how many times it is made of which rows.
        own = [1 if other == place else 0 for other in range(len(rows))]
        rest = cleared(list(row) + own, stairs)
        if first_place(rest) < len(row):
            stairs.append(rest)
            free.append(place)
        else:
            makers.append(lowest(rest[len(row):]))
    return (free, makers)


def free_places(rows):
    return sifted(rows)[0]


def nought_makers(rows):
    return sifted(rows)[1]
