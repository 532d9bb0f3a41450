"""Fractions: pairs (a, b) of whole numbers in lowest terms, a from 0 on, b above 0."""

from fairknife.errors import BadFraction


def is_whole(thing):
    # Python counts True and False among the whole numbers; the document doesn't.
    return isinstance(thing, int) and not isinstance(thing, bool)


def greatest_divisor(a, b):
    while b > 0:
        rest = a % b
        a = b
        b = rest
    return a


def is_fraction(thing):
    if not isinstance(thing, tuple) or len(thing) != 2:
        return False
    a = thing[0]
    b = thing[1]
    if not is_whole(a) or not is_whole(b) or a < 0 or b < 1:
        return False
    return greatest_divisor(a, b) == 1


def made(a, b):
    # The refusals' words leave the numbers out: Python won't write one of thousands of figures.
    if not is_whole(a) or not is_whole(b):
        raise BadFraction("a fraction is made of two whole numbers")
    if a < 0 or b < 1:
        raise BadFraction("a fraction's first number is 0 or more, its second one 1 or more")
    common = greatest_divisor(a, b)
    return (a // common, b // common)


def plus(one, other):
    return made(one[0] * other[1] + other[0] * one[1], one[1] * other[1])


def minus(one, other):
    return made(one[0] * other[1] - other[0] * one[1], one[1] * other[1])


def times(one, other):
    return made(one[0] * other[0], one[1] * other[1])


def over(one, other):
    return made(one[0] * other[1], one[1] * other[0])


def below(one, other):
    return one[0] * other[1] < other[0] * one[1]


def ranked(those):
    # The places from the least fraction to the greatest; of like ones the least place comes first,
    # since sorting leaves them in their order.
    return sorted(range(len(those)), key=lambda place: len([one for one in those if below(one, those[place])]))
