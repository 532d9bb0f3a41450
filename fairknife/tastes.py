"""Tastes: what each stretch of the cake is worth to a taker."""

from fairknife.errors import BadTakers, BadTaste, TooLittle
from fairknife.fractions import below, is_fraction, is_whole, minus, over, plus, times
from fairknife.lines import reached
from fairknife.pieces import LEFT_END, RIGHT_END, check_piece

MOST_STEPS = 8
GREATEST_SECOND_NUMBER = 1000
GREATEST_WEIGHT = 1000


def check_step(step):
    if not isinstance(step, tuple) or len(step) != 2:
        raise BadTaste("a step is a pair of an end and a weight")
    if not is_fraction(step[0]) or step[0][1] > GREATEST_SECOND_NUMBER:
        raise BadTaste("a step's end is a fraction, its second number at most 1000")
    if not is_whole(step[1]) or step[1] < 1 or step[1] > GREATEST_WEIGHT:
        raise BadTaste("a step's weight is a whole number from 1 to 1000")


def check_steps(steps):
    if not isinstance(steps, list):
        raise BadTaste("a taste is told by a list of steps")
    if len(steps) < 1 or len(steps) > MOST_STEPS:
        raise BadTaste("a taste has 1 to 8 steps")
    start = LEFT_END
    for step in steps:
        check_step(step)
        if not below(start, step[0]):
            raise BadTaste("the steps' ends rise, from above 0 on")
        start = step[0]
    if start != RIGHT_END:
        raise BadTaste("the last step's end is 1")


def check_tastes(tastes):
    if not isinstance(tastes, list):
        raise BadTakers("takers are told by a list of Tastes")
    for taste in tastes:
        if not isinstance(taste, Taste):
            raise BadTakers("each taker is told by a Taste")


def worth_line(steps):
    # Corners (a step's end, the worth of the cake up to it).
    ends = [LEFT_END]
    hefts = [(0, 1)]
    for step in steps:
        length = minus(step[0], ends[-1])
        hefts.append(plus(hefts[-1], times(length, (step[1], 1))))
        ends.append(step[0])
    return [(point, over(heft, hefts[-1])) for point, heft in zip(ends, hefts)]


class Taste:
    def __init__(self, steps):
        check_steps(steps)
        self.told = list(steps)
        self.line = worth_line(steps)

    def steps(self):
        return list(self.told)

    def corners(self):
        return list(self.line)

    def worth_up_to(self, point):
        return reached([(corner[1], corner[0]) for corner in self.line], point)

    def point_at(self, worth):
        return reached(self.line, worth)

    def span_worth(self, span):
        return minus(self.worth_up_to(span[1]), self.worth_up_to(span[0]))

    def worth(self, piece):
        check_piece(piece)
        total = (0, 1)
        for span in piece:
            total = plus(total, self.span_worth(span))
        return total

    def mark(self, start, share):
        if below(RIGHT_END, start):
            return None
        return self.point_at(plus(self.worth_up_to(start), share))

    def cut(self, piece, share):
        if below(self.worth(piece), share):
            raise TooLittle("the piece is worth less than the share")
        first = []
        second = []
        left = share
        for span in piece:
            worth = self.span_worth(span)
            if left == (0, 1):
                second.append(span)
            elif below(left, worth):
                point = self.mark(span[0], left)
                first.append((span[0], point))
                second.append((point, span[1]))
                left = (0, 1)
            else:
                first.append(span)
                left = minus(left, worth)
        return (first, second)
