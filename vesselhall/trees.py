"""Trees: what the turnings that lead to a heap from all others of its lot weigh by their paces."""

from vesselhall.fractions import plus, times
from vesselhall.ties import heap_numbers, lots
from vesselhall.vessels import NOUGHT

ONE = (1, 1)


def turnings_from(ends, heap):
    return [number for number, end in enumerate(ends) if end[0] == heap]


def picks(ends, some):
    """All rows of turnings, one from each of some heaps. There are few: a vessel has but eight turnings."""
    told = [[]]
    for heap in some:
        longer = []
        for pick in told:
            longer.extend([pick + [number] for number in turnings_from(ends, heap)])
        told = longer
    return told


def is_tree(ends, pick, heap):
    steps = {heap: heap}
    for number in pick:
        steps[ends[number][0]] = ends[number][1]
    for start in list(steps):
        here = start
        # Who has not come home by as many steps as there are heaps goes round for ever.
        for step in range(len(steps)):
            here = steps[here]
        if here != heap:
            return False
    return True


def pace_product(turnings, pick):
    product = ONE
    for number in pick:
        product = times(product, turnings[number][2])
    return product


def tree_weight(turnings, ends, lot, heap):
    weight = NOUGHT
    for pick in picks(ends, [other for other in lot if other != heap]):
        if is_tree(ends, pick, heap):
            weight = plus(weight, pace_product(turnings, pick))
    return weight


def tree_weights(vessel):
    ends = heap_numbers(vessel)
    weights = {}
    for lot in lots(vessel):
        for heap in lot:
            weights[heap] = tree_weight(vessel[1], ends, lot, heap)
    return [weights[heap] for heap in range(len(weights))]
