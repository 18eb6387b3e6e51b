"""Ties: the lots of a vessel's heaps, roads from heap to heap, and turnings that lead back."""

from vesselhall.errors import NoHeap
from vesselhall.fractions import whole
from vesselhall.vessels import heaps


def heap_numbers(vessel):
    numbers = {}
    for number, heap in enumerate(heaps(vessel)):
        numbers[heap] = number
    return [(numbers[turning[0]], numbers[turning[1]]) for turning in vessel[1]]


def places_of(things, thing):
    return [place for place, other in enumerate(things) if other == thing]


def lots(vessel):
    # Each heap bears the least number of its lot, as far as the ties that were seen tell.
    firsts = list(range(len(heaps(vessel))))
    for one, two in heap_numbers(vessel):
        lesser = min(firsts[one], firsts[two])
        greater = max(firsts[one], firsts[two])
        firsts = [lesser if first == greater else first for first in firsts]
    return [places_of(firsts, first) for first in sorted(set(firsts))]


def check_heap(vessel, number):
    if not whole(number) or not 0 <= number < len(heaps(vessel)):
        raise NoHeap("a heap's number is from 0 on and below the count of heaps")


def road(vessel, one, two):
    check_heap(vessel, one)
    check_heap(vessel, two)
    ends = heap_numbers(vessel)
    roads = {one: []}
    come_to = [one]
    place = 0
    # Heaps are come to by rising lengths of their roads, so the first road to a heap is a shortest one.
    while place < len(come_to):
        here = come_to[place]
        for number, end in enumerate(ends):
            if end[0] == here and end[1] not in roads:
                roads[end[1]] = roads[here] + [number]
                come_to.append(end[1])
        place = place + 1
    return roads.get(two)


def first_astray(vessel):
    for number, end in enumerate(heap_numbers(vessel)):
        if road(vessel, end[1], end[0]) is None:
            return number
    return None
