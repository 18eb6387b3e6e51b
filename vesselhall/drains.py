"""Drains and traps: the least of them, and what guards a drain."""

from vesselhall.board import balanced
from vesselhall.errors import NoDrain
from vesselhall.fractions import whole
from vesselhall.vessels import changes


def sets_of(size):
    """All sets of stuffs, in the order of point 24."""
    told = []
    longest = [(stuff,) for stuff in range(size)]
    while len(longest) > 0:
        told.extend(longest)
        longer = []
        for stuffs in longest:
            longer.extend([stuffs + (stuff,) for stuff in range(stuffs[-1] + 1, size)])
        longest = longer
    return told


def has_some(heap, stuffs):
    return any([heap[stuff] > 0 for stuff in stuffs])


def is_drain(vessel, stuffs):
    return all([has_some(turning[0], stuffs) or not has_some(turning[1], stuffs) for turning in vessel[1]])


def is_trap(vessel, stuffs):
    return all([has_some(turning[1], stuffs) or not has_some(turning[0], stuffs) for turning in vessel[1]])


def lies_within(smaller, greater):
    return all([stuff in greater for stuff in smaller])


def least_of(sets):
    # What is smaller comes first, so a set is least where none of the least ones so far lies within it.
    least = []
    for stuffs in sets:
        if not any([lies_within(smaller, stuffs) for smaller in least]):
            least.append(stuffs)
    return least


def drains(vessel):
    return least_of([stuffs for stuffs in sets_of(len(vessel[0])) if is_drain(vessel, stuffs)])


def traps(vessel):
    return least_of([stuffs for stuffs in sets_of(len(vessel[0])) if is_trap(vessel, stuffs)])


def check_drain(vessel, drain):
    # Python would take True for the number 1.
    if not all([whole(stuff) for stuff in drain]) or drain not in sets_of(len(vessel[0])):
        raise NoDrain("a drain is a tuple of numbers of stuffs, rising and not empty")
    if not is_drain(vessel, drain):
        raise NoDrain("some turning puts pieces into this set and takes none from it")


def numbers_at(row, stuffs):
    return [row[stuff] for stuff in stuffs]


def guard(vessel, drain):
    check_drain(vessel, drain)
    parts = [numbers_at(row, drain) for row in changes(vessel)]
    told = balanced(parts, [[1] * len(drain)])
    if not told[0]:
        return told
    weights = [0] * len(vessel[0])
    for stuff, weight in zip(drain, told[1]):
        weights[stuff] = weight
    return (True, weights)
