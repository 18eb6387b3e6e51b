"""Even hands: whether the paces hold one another in balance, and what counts then weigh beside one another."""

from vesselhall.errors import NotEven
from vesselhall.fractions import fraction, least_multiple
from vesselhall.lack import lack_rows
from vesselhall.powers import apart, multiplied
from vesselhall.ties import first_astray, heap_numbers
from vesselhall.trees import tree_weights
from vesselhall.walks import comings, falling, walked


def weight_powers(weights, row):
    powers = []
    for weight, often in zip(weights, row):
        powers.append((weight[0], often))
        powers.append((weight[1], -often))
    return powers


def even(vessel):
    astray = first_astray(vessel)
    if astray is not None:
        return (False, astray)
    weights = tree_weights(vessel)
    for row in lack_rows(vessel):
        # With heaps of at most 3 pieces of five stuffs no number of a row has more than five figures.
        if len(apart(weight_powers(weights, row))) > 0:
            return (False, row)
    return (True, weights)


def even_weights(vessel):
    told = even(vessel)
    if not told[0]:
        raise NotEven("the vessel is not even-handed")
    return told[1]


def heaps_come_to(vessel, row, size):
    """For each heap, how often the row's turnings lead to it, less how often from it."""
    ends = heap_numbers(vessel)
    often = [0] * size
    for number in row:
        one = ends[number][0]
        two = ends[number][1]
        often[one] = often[one] - 1
        often[two] = often[two] + 1
    return often


def gain_between(vessel, weights, row, ahead, behind):
    # What lies between the turnings of the row falls out: each count behind one is ahead of the next.
    product = multiplied(weight_powers(weights, heaps_come_to(vessel, row, len(weights))))
    top = product[0]
    bottom = product[1]
    for one, two in zip(ahead, behind):
        top = top * falling(one, one - two)
        bottom = bottom * falling(two, two - one)
    return fraction(top, bottom)


def gain(vessel, row, count):
    weights = even_weights(vessel)
    return gain_between(vessel, weights, row, count, walked(vessel, row, count))


def shares(vessel, count):
    weights = even_weights(vessel)
    told = comings(vessel, count)
    gains = [gain_between(vessel, weights, row, count, behind) for behind, row in told]
    bottom = 1
    for one in gains:
        bottom = least_multiple(bottom, one[1])
    parts = [one[0] * (bottom // one[1]) for one in gains]
    total = sum(parts)
    return [(coming[0], fraction(part, total)) for coming, part in zip(told, parts)]
