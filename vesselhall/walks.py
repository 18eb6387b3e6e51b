"""Walks: the ways of a turning at a count, rows of turnings walked, and all counts that walks come to."""

from vesselhall.errors import NotNow, TooMany
from vesselhall.fractions import times
from vesselhall.vessels import turning_at

MOST_COUNTS = 60


def falling(pieces, taken):
    product = 1
    for less in range(taken):
        product = product * (pieces - less)
    return product


def ways(vessel, number, count):
    turning = turning_at(vessel, number)
    product = 1
    for pieces, taken in zip(count, turning[0]):
        product = product * falling(pieces, taken)
    return times(turning[2], (product, 1))


def can_be_made(turning, count):
    # Not the change but from decides: what is put back is needed all the same.
    return all([taken <= pieces for taken, pieces in zip(turning[0], count)])


def count_behind(turning, count):
    return tuple([pieces - taken + put for pieces, taken, put in zip(count, turning[0], turning[1])])


def walked(vessel, row, count):
    here = tuple(count)
    for at, number in enumerate(row):
        turning = turning_at(vessel, number)
        if not can_be_made(turning, here):
            raise NotNow(at)
        here = count_behind(turning, here)
    return here


def steps_on(vessel, count, row):
    steps = []
    for number, turning in enumerate(vessel[1]):
        if can_be_made(turning, count):
            steps.append((count_behind(turning, count), row + [number]))
    return steps


def comings(vessel, count):
    start = tuple(count)
    told = [(start, [])]
    found = {start: True}
    place = 0
    while place < len(told):
        here = told[place]
        for step in steps_on(vessel, here[0], here[1]):
            if step[0] not in found:
                found[step[0]] = True
                told.append(step)
        # Walks may go on without end, so this is asked ahead of each further step.
        if len(told) > MOST_COUNTS:
            raise TooMany(told[:MOST_COUNTS + 1])
        place = place + 1
    return told
