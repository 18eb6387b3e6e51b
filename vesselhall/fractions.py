"""Fractions: tuples (top, bottom) in lowest terms, with a bottom from 1 on."""

from vesselhall.errors import NoFraction


def whole(value):
    # Python counts True and False among the ints, the document does not.
    return isinstance(value, int) and not isinstance(value, bool)


def greatest_divisor(one, two):
    while two != 0:
        rest = one % two
        one = two
        two = rest
    return abs(one)


def least_multiple(one, two):
    return one * two // greatest_divisor(one, two)


def fraction(top, bottom):
    if not whole(top) or not whole(bottom):
        raise NoFraction("a fraction is made of two whole numbers")
    if bottom == 0:
        raise NoFraction("a fraction's second number is not 0")
    divisor = greatest_divisor(top, bottom)
    if bottom < 0:
        divisor = -divisor
    return (top // divisor, bottom // divisor)


def plus(one, two):
    return fraction(one[0] * two[1] + two[0] * one[1], one[1] * two[1])


def minus(one, two):
    return fraction(one[0] * two[1] - two[0] * one[1], one[1] * two[1])


def times(one, two):
    return fraction(one[0] * two[0], one[1] * two[1])


def over(one, two):
    return fraction(one[0] * two[1], one[1] * two[0])


def before(one, two):
    return one[0] * two[1] < two[0] * one[1]
