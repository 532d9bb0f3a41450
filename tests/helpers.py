"""What several tests use: things of all kinds, pieces on a grid, and a piece's form."""

import decimal
import fractions
import math


class Prickly:
    """Fails at whatever is done with it but being looked at for its kind."""

    def fail(self, *things):
        raise RuntimeError("touched")

    __eq__ = __lt__ = __le__ = __gt__ = __ge__ = __bool__ = __len__ = __iter__ = fail
    __getitem__ = __contains__ = __repr__ = __str__ = __int__ = __index__ = __hash__ = fail
    __mod__ = __rmod__ = __floordiv__ = __mul__ = __rmul__ = fail


class NumberLike:
    """Behaves like 1, and is no whole number."""

    def __index__(self):
        return 1

    __int__ = __index__


def no_whole_numbers():
    return [None, True, False, "", "1", "1/2", b"1", 0.0, 1.0, 0.5, float("nan"), float("inf"), 1j,
            [], [1], (), (1,), (1, 2), {}, {1: 2}, {1}, frozenset([1]), range(3), iter([1]),
            object(), Prickly(), NumberLike(), fractions.Fraction(1), decimal.Decimal(1),
            int, made_by_nobody, bytearray(b"1"), Ellipsis, NotImplemented, ValueError("1")]


def made_by_nobody():
    raise RuntimeError("called")


def no_lists():
    return no_spans() + [((0, 1), (1, 1))]


def no_spans():
    """Things that are neither lists nor spans."""
    return [None, True, False, 0, 1, -1, 10 ** 5000, "", "0-1", b"", 0.5, 1j, (),
            (((0, 1), (1, 1)),), {}, {(0, 1): (1, 1)}, {((0, 1), (1, 1))},
            frozenset(), range(0), iter([]), (span for span in [((0, 1), (1, 1))]),
            object(), Prickly(), NumberLike(), list, made_by_nobody, Ellipsis, ValueError()]


def no_fractions():
    """Things that are no fraction; some would lie within the cake if they were one."""
    ends = [(2, 4), (3, 6), (0, 2), (0, 5), (2, 2), (7, 7), (10 ** 400, 2 * 10 ** 400),
            (-1, 2), (-1, 1), (1, -2), (-1, -2), (0, -1), (1, 0), (0, 0), (2, 0),
            (True, 2), (1, True), (False, 1), (True, True), (False, True),
            [1, 2], [0, 1], (), (1,), (1, 2, 3), ((1, 2),), ((1, 2), (1, 1)), ("1", "2"), "12",
            (0.5, 1), (1, 2.0), (1.0, 2), (None, 1), (1, None), (1, [2]), (Prickly(), 2),
            (1, Prickly()), (NumberLike(), 2), {1: 1, 2: 2}, range(1, 3), {1, 2}, 0, 1, -1]
    # One of the things that are no whole numbers is a fraction.
    return ends + [thing for thing in no_whole_numbers() if not isinstance(thing, tuple)]


def end(a, b):
    common = math.gcd(a, b)
    return (a // common, b // common)


def piece_of_cells(cells, count):
    """The piece of the chosen ones of so many cells of one length, by a number's bits."""
    spans = []
    k = 0
    while k < count:
        begin = k
        while k < count and cells >> k & 1:
            k += 1
        if k > begin:
            spans.append((end(begin, count), end(k, count)))
        k += 1
    return spans


def assert_piece(case, piece):
    """The form of a piece, asked for independently of the program."""
    case.assertIs(type(piece), list)
    last = None
    for span in piece:
        case.assertIs(type(span), tuple)
        case.assertEqual(len(span), 2)
        for point in span:
            case.assertIs(type(point), tuple)
            case.assertEqual([type(number) for number in point], [int, int])
            case.assertEqual(math.gcd(*point), 1)
            case.assertGreater(point[1], 0)
            case.assertTrue(0 <= point[0] <= point[1])
        start, stop = (fractions.Fraction(*point) for point in span)
        case.assertLess(start, stop)
        if last is not None:
            case.assertLess(last, start)
        last = stop
