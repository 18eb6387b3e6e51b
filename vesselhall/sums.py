"""Sums: the free turnings of a vessel, the sums that every turning keeps, and the rounds that change nothing."""

from vesselhall.rows import crossed, free_places, nought_makers
from vesselhall.vessels import changes


def free(vessel):
    return free_places(changes(vessel))


def kept(vessel):
    # A sum is kept by all turnings where it makes the stuffs' own rows come to 0, turning by turning.
    return nought_makers(crossed(changes(vessel)))


def rounds(vessel):
    return nought_makers(changes(vessel))
