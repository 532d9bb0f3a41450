"""Pieces: lists of spans of the cake, which goes from 0 to 1."""

from fairknife.errors import BadPiece
from fairknife.fractions import below, is_fraction

LEFT_END = (0, 1)
RIGHT_END = (1, 1)


def is_span(thing):
    if not isinstance(thing, tuple) or len(thing) != 2:
        return False
    if not is_fraction(thing[0]) or not is_fraction(thing[1]):
        return False
    return below(thing[0], thing[1]) and not below(RIGHT_END, thing[1])


def check_piece(piece):
    if not isinstance(piece, list):
        raise BadPiece("a piece is a list of spans")
    reached = None
    for span in piece:
        if not is_span(span):
            raise BadPiece("a span is a pair of fractions from 0 to 1, the first below the second")
        if reached is not None and not below(reached, span[0]):
            raise BadPiece("a piece's spans rise, and none touches another or lies over it")
        reached = span[1]


def whole():
    return [(LEFT_END, RIGHT_END)]


def turns(piece):
    # The points at which one comes into the piece and out of it by turns, from the left on.
    points = []
    for span in piece:
        points.extend(span)
    return points


def nearest(ahead, passed, other_ahead, other_passed):
    if other_passed == len(other_ahead):
        return ahead[passed]
    if passed < len(ahead) and below(ahead[passed], other_ahead[other_passed]):
        return ahead[passed]
    return other_ahead[other_passed]


def combined(one, other, keeps):
    # All turns at one point are passed before anything is kept or left, so that no single points
    # come about, and no span that begins where another one ends.
    check_piece(one)
    check_piece(other)
    ones = turns(one)
    others = turns(other)
    i = 0
    j = 0
    start = None
    spans = []
    while i < len(ones) or j < len(others):
        point = nearest(ones, i, others, j)
        if i < len(ones) and ones[i] == point:
            i += 1
        if j < len(others) and others[j] == point:
            j += 1
        kept = keeps(i % 2 == 1, j % 2 == 1)
        if kept and start is None:
            start = point
        elif not kept and start is not None:
            spans.append((start, point))
            start = None
    return spans


def joined(one, other):
    return combined(one, other, lambda in_one, in_other: in_one or in_other)


def shared(one, other):
    return combined(one, other, lambda in_one, in_other: in_one and in_other)


def without(one, other):
    return combined(one, other, lambda in_one, in_other: in_one and not in_other)


def deals(pieces):
    if not isinstance(pieces, list):
        raise BadPiece("a dealing is a list of pieces")
    spans = []
    for piece in pieces:
        check_piece(piece)
        spans.extend(piece)
    ends = {}
    for span in spans:
        ends[span[0]] = span[1]
    # Spans deal the cake just if they make one chain from its left end to its right end. Two that
    # begin at one point leave one of them out of the dict, so that the chain is too short.
    point = LEFT_END
    chained = 0
    while point in ends:
        point = ends[point]
        chained += 1
    return point == RIGHT_END and chained == len(spans)
