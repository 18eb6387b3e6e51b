"""Weights: whether a vessel is sheltered, keeping and returning, and what shows it."""

from vesselhall.board import balanced, settled
from vesselhall.rows import crossed, unit_rows
from vesselhall.vessels import changes


def sheltered(vessel):
    return settled(changes(vessel), unit_rows(len(vessel[0])))


def keeping(vessel):
    return balanced(changes(vessel), unit_rows(len(vessel[0])))


def returning(vessel):
    return balanced(crossed(changes(vessel)), unit_rows(len(vessel[1])))
