"""Vessels: tuples (stuffs, turnings), how they are made, their heaps and changes."""

from vesselhall.errors import NoHeap, NoPace, NoStuffs, NoTurning, NoTurnings
from vesselhall.fractions import before, whole

MOST_STUFFS = 5
MOST_SIGNS = 8
MOST_PIECES = 3
MOST_TURNINGS = 8
MOST_HEAPS = 8
NOUGHT = (0, 1)


def is_word(word):
    if not isinstance(word, str) or not 1 <= len(word) <= MOST_SIGNS:
        return False
    # islower would let figures and letters beyond z through.
    return all(["a" <= sign <= "z" for sign in word])


def stuffs_of(words):
    if not 1 <= len(words) <= MOST_STUFFS:
        raise NoStuffs("a vessel has one to five stuffs")
    if not all([is_word(word) for word in words]):
        raise NoStuffs("a stuff is a word of one to eight signs from a to z")
    if len(set(words)) < len(words):
        raise NoStuffs("no two stuffs have the same word")
    return tuple(words)


def is_heap(pieces, size):
    if not isinstance(pieces, (list, tuple)) or len(pieces) != size:
        return False
    return all([whole(number) and 0 <= number <= MOST_PIECES for number in pieces])


def turnings_of(rows, size):
    # Two walks, for a heap refused in a late row goes ahead of a pace refused in an early one.
    for row in rows:
        if not is_heap(row[0], size) or not is_heap(row[1], size):
            raise NoHeap("a heap has 0 to 3 pieces of each stuff")
    for row in rows:
        if not before(NOUGHT, row[2]):
            raise NoPace("a pace is above 0")
    return tuple([(tuple(row[0]), tuple(row[1]), tuple(row[2])) for row in rows])


def check_turnings(turnings):
    if not 1 <= len(turnings) <= MOST_TURNINGS:
        raise NoTurnings("a vessel has one to eight turnings")
    if any([turning[0] == turning[1] for turning in turnings]):
        raise NoTurnings("a turning leads to another heap")
    if len(set([turning[:2] for turning in turnings])) < len(turnings):
        raise NoTurnings("no two turnings have the same from and the same to")
    if len(heaps_of(turnings)) > MOST_HEAPS:
        raise NoTurnings("a vessel has at most eight unlike heaps")


def heaps_of(turnings):
    # A dict keeps each heap where it first came.
    found = {}
    for turning in turnings:
        found[turning[0]] = True
        found[turning[1]] = True
    return list(found)


def made(words, rows):
    stuffs = stuffs_of(words)
    turnings = turnings_of(rows, len(stuffs))
    check_turnings(turnings)
    return (stuffs, turnings)


def heaps(vessel):
    return heaps_of(vessel[1])


def turning_at(vessel, number):
    turnings = vessel[1]
    # Python would take a number below 0 as one from the end.
    if not whole(number) or not 0 <= number < len(turnings):
        raise NoTurning("a turning's number is from 0 on and below the count of turnings")
    return turnings[number]


def change(vessel, number):
    turning = turning_at(vessel, number)
    return tuple([behind - ahead for ahead, behind in zip(turning[0], turning[1])])


def changes(vessel):
    return [change(vessel, number) for number in range(len(vessel[1]))]
