"""Rows of whole numbers: their lowest terms, which of them stand free, and how they come to nought."""

from vesselhall.fractions import greatest_divisor


def column(rows, place):
    return [row[place] for row in rows]


def crossed(rows):
    return [column(rows, place) for place in range(len(rows[0]))]


def first_place(row):
    for place, number in enumerate(row):
        if number != 0:
            return place
    return None


def unit_row(size, own):
    return [1 if place == own else 0 for place in range(size)]


def unit_rows(size):
    return [unit_row(size, own) for own in range(size)]


def opposite(row):
    return [-number for number in row]


def opposites(rows):
    return [opposite(row) for row in rows]


def common_divisor(row):
    divisor = 0
    for number in row:
        divisor = greatest_divisor(divisor, number)
    return divisor


def lowest(row):
    place = first_place(row)
    if place is None:
        return list(row)
    divisor = common_divisor(row)
    if row[place] < 0:
        divisor = -divisor
    return [number // divisor for number in row]


def cleared(row, stairs):
    # Each stair is 0 where those ahead of it begin, so what one of them has cleared stays so.
    for stair in stairs:
        place = first_place(stair)
        row = lowest([stair[place] * number - row[place] * step for number, step in zip(row, stair)])
    return row


def sifted(rows):
    stairs = []
    free = []
    makers = []
    units = unit_rows(len(rows))
    for place, row in enumerate(rows):
        # Behind its numbers each row bears how many times it is made of which rows.
        rest = cleared(list(row) + units[place], stairs)
        if first_place(rest) < len(row):
            stairs.append(rest)
            free.append(place)
        else:
            makers.append(lowest(rest[len(row):]))
    return (free, makers)


def free_places(rows):
    return sifted(rows)[0]


def nought_makers(rows):
    return sifted(rows)[1]
