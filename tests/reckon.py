"""Points 3 to 6 reckoned anew, with Python's own fractions and from the steps alone; and many tastes."""

import fractions
import random

Fraction = fractions.Fraction
HALF = Fraction(1, 2)


def number(pair_of_numbers):
    return Fraction(*pair_of_numbers)


def pair(told):
    return (told.numerator, told.denominator)


def stretches(steps):
    start = Fraction(0)
    found = []
    for stop, weight in steps:
        found.append((start, number(stop), weight))
        start = number(stop)
    return found


def heft(steps, start, stop):
    total = Fraction(0)
    for left, right, weight in stretches(steps):
        length = min(stop, right) - max(start, left)
        total += max(length, 0) * weight
    return total


def span_worth(steps, start, stop):
    return heft(steps, start, stop) / heft(steps, 0, 1)


def worth(steps, piece):
    return sum((span_worth(steps, number(span[0]), number(span[1])) for span in piece), Fraction(0))


def mark(steps, start, share):
    wanted = share * heft(steps, 0, 1)
    for left, right, weight in stretches(steps):
        begin = max(left, start)
        here = max(right - begin, 0) * weight
        if right > begin and here >= wanted:
            return begin + wanted / weight
        wanted -= here
    return None


def some_steps(source, count, second, weight):
    """Steps with ends and weights drawn at random, always the same for one source."""
    ends = set()
    while len(ends) < count - 1:
        b = source.randint(2, second)
        ends.add(Fraction(source.randint(1, b - 1), b))
    return [(pair(stop), source.randint(1, weight)) for stop in sorted(ends) + [Fraction(1)]]


def plain_steps():
    """Tastes told by hand, with the edges of point 3."""
    return [
        [((1, 1), 1)],
        [((1, 1), 1000)],
        [((1, 4), 3), ((1, 1), 1)],
        [((1, 2), 1), ((1, 1), 3)],
        [((1, 2), 3), ((1, 1), 1)],
        [((1, 3), 1), ((2, 3), 1), ((1, 1), 1)],
        [((1, 3), 5), ((2, 3), 1), ((1, 1), 5)],
        [((1, 3), 1), ((2, 3), 5), ((1, 1), 1)],
        [((1, 1000), 1000), ((1, 1), 1)],
        [((999, 1000), 1), ((1, 1), 1000)],
        [((1, 1000), 1), ((999, 1000), 1000), ((1, 1), 1)],
        [((499, 999), 1), ((500, 999), 1000), ((1, 1), 1)],
        [((1, 8), 3), ((1, 1), 2)],
        [((1, 8), 1), ((1, 4), 9), ((3, 8), 2), ((1, 2), 8), ((5, 8), 3), ((3, 4), 7), ((7, 8), 4), ((1, 1), 6)],
        [((991, 1000), 1), ((996, 997), 999), ((998, 999), 2), ((1, 1), 5)],
    ]


def many_steps(count, seed):
    source = random.Random(seed)
    found = plain_steps()
    while len(found) < count:
        second, weight = source.choice([(9, 3), (12, 9), (1000, 1000)])
        found.append(some_steps(source, source.randint(1, 8), second, weight))
    return found[:count]
