"""Powers: products of tuples (number, often), each a number from 1 on so often, and divided by it where below 0."""

from vesselhall.fractions import greatest_divisor


def taken_out(number, divisor):
    """How often the divisor goes into the number, and what is left."""
    often = 0
    while number % divisor == 0:
        number = number // divisor
        often = often + 1
    return (often, number)


def split(one, two):
    """The powers of a common divisor of both and of what is left of each, with the same product."""
    divisor = greatest_divisor(one[0], two[0])
    first = taken_out(one[0], divisor)
    second = taken_out(two[0], divisor)
    return [(first[1], one[1]), (second[1], two[1]), (divisor, first[0] * one[1] + second[0] * two[1])]


def place_with_divisor(powers, number):
    for place, power in enumerate(powers):
        if greatest_divisor(power[0], number) > 1:
            return place
    return None


def apart(powers):
    """Powers with the same product, of numbers above 1 no two of which have a common divisor, none of them 0 times.

    So the product is 1 just where there are none: what divides one of the numbers stands in no other.
    """
    told = []
    left = list(powers)
    # Each split makes the product of all numbers smaller, so this ends.
    while len(left) > 0:
        power = left.pop()
        if power[0] > 1 and power[1] != 0:
            place = place_with_divisor(told, power[0])
            if place is None:
                told.append(power)
            else:
                left.extend(split(power, told.pop(place)))
    return told


def raised(number, often):
    product = 1
    for again in range(often):
        product = product * number
    return product


def multiplied(powers):
    """The product as a fraction; being apart, its top and its bottom have no common divisor."""
    top = 1
    bottom = 1
    for number, often in apart(powers):
        top = top * raised(number, often)
        bottom = bottom * raised(number, -often)
    return (top, bottom)
