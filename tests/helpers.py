"""What several tests use: things of all kinds, pieces on a grid, a piece's form, and refusals."""

import decimal
import fractions
import math

from fairknife.tastes import Taste

HUGE = 10 ** 5000


class Prickly:
    """Fails at whatever is done with it but being looked at for its kind."""

    def fail(self, *things):
        raise RuntimeError("touched")

    __eq__ = __lt__ = __le__ = __gt__ = __ge__ = __bool__ = __len__ = __iter__ = fail
    __getitem__ = __contains__ = __repr__ = __str__ = __int__ = __index__ = __hash__ = fail
    __mod__ = __rmod__ = __floordiv__ = __mul__ = __rmul__ = fail


class NumberLike:
    """Behaves like 1, and is no whole number."""

    def __index__(self):
        return 1

    __int__ = __index__


def no_whole_numbers():
    return [None, True, False, "", "1", "1/2", b"1", 0.0, 1.0, 0.5, float("nan"), float("inf"), 1j,
            [], [1], (), (1,), (1, 2), {}, {1: 2}, {1}, frozenset([1]), range(3), iter([1]),
            object(), Prickly(), NumberLike(), fractions.Fraction(1), decimal.Decimal(1),
            int, made_by_nobody, bytearray(b"1"), Ellipsis, NotImplemented, ValueError("1")]


def made_by_nobody():
    raise RuntimeError("called")


def no_lists():
    return no_spans() + [((0, 1), (1, 1))]


def no_spans():
    """Things that are neither lists nor spans."""
    return [None, True, False, 0, 1, -1, 10 ** 5000, "", "0-1", b"", 0.5, 1j, (),
            (((0, 1), (1, 1)),), {}, {(0, 1): (1, 1)}, {((0, 1), (1, 1))},
            frozenset(), range(0), iter([]), (span for span in [((0, 1), (1, 1))]),
            object(), Prickly(), NumberLike(), list, made_by_nobody, Ellipsis, ValueError()]


def no_fractions():
    """Things that are no fraction; some would lie within the cake if they were one."""
    ends = [(2, 4), (3, 6), (0, 2), (0, 5), (2, 2), (7, 7), (10 ** 400, 2 * 10 ** 400),
            (-1, 2), (-1, 1), (1, -2), (-1, -2), (0, -1), (1, 0), (0, 0), (2, 0),
            (True, 2), (1, True), (False, 1), (True, True), (False, True),
            [1, 2], [0, 1], (), (1,), (1, 2, 3), ((1, 2),), ((1, 2), (1, 1)), ("1", "2"), "12",
            (0.5, 1), (1, 2.0), (1.0, 2), (None, 1), (1, None), (1, [2]), (Prickly(), 2),
            (1, Prickly()), (NumberLike(), 2), {1: 1, 2: 2}, range(1, 3), {1, 2}, 0, 1, -1]
    # One of the things that are no whole numbers is a fraction.
    return ends + [thing for thing in no_whole_numbers() if not isinstance(thing, tuple)]


def bad_pieces():
    """Lists that are no pieces."""
    first = ((0, 1), (1, 3))
    last = ((2, 3), (1, 1))
    half = (1, 2)
    bad = [
        # Spans beyond the cake.
        [((0, 1), (2, 1))], [((0, 1), (HUGE + 1, HUGE))], [((1, 1), (2, 1))], [((3, 2), (2, 1))],
        [first, ((2, 3), (4, 3))],
        # The first end isn't below the second one.
        [(half, half)], [((0, 1), (0, 1))], [((1, 1), (1, 1))], [(half, (1, 3))], [((1, 1), (0, 1))],
        [first, (half, half), last], [first, (half, half)], [(half, half), last],
        # Spans that don't rise.
        [last, first], [((0, 1), (1, 5)), ((3, 5), (4, 5)), ((2, 5), (1, 2))],
        # Spans that touch.
        [((0, 1), half), (half, (1, 1))], [first, ((1, 3), half), last], [first, (half, (2, 3)), last],
        # Spans that lie over one another.
        [((0, 1), half), ((1, 3), (1, 1))], [first, first], [((0, 1), (1, 1)), ((1, 3), half)],
        [((1, 3), half), ((0, 1), (1, 1))], [((0, 1), half), ((0, 1), (1, 1))], [first, last, last],
        # A list in a tuple's place, and a tuple too many or too few.
        [[(0, 1), (1, 1)]], [[[0, 1], [1, 1]]], [first, list(last)], [[first]], [(first,)], [(first, last)],
        [((0, 1), half, (1, 1))], [((0, 1),)], [()], [(0, 1)], [(0, 1), (1, 1)], [(0, 1, 1, 1)], ["01"],
        [first, None], [None, last], [first, []], [{}], [{(0, 1): 0, (1, 1): 1}],
    ]
    for thing in no_fractions():
        bad.append([(thing, (1, 1))])
        bad.append([((0, 1), thing)])
        bad.append([(thing, thing)])
        bad.append([first, (thing, (1, 1))])
        bad.append([first, ((2, 3), thing)])
    for thing in no_spans():
        bad.append([thing])
        bad.append([first, thing])
    itself = []
    itself.append(itself)
    bad.append(itself)
    return bad


class TasteLike:
    """Answers like a Taste, and is none."""

    def __init__(self):
        self.taste = Taste([((1, 1), 1)])

    def steps(self):
        return self.taste.steps()

    def worth(self, piece):
        return self.taste.worth(piece)

    def mark(self, start, share):
        return self.taste.mark(start, share)

    def cut(self, piece, share):
        return self.taste.cut(piece, share)


def no_tastes():
    """Things that are no Taste."""
    return no_lists() + [[], [((1, 1), 1)], ((1, 1), 1), "1@1", Taste, TasteLike(), [Taste([((1, 1), 1)])]]


def end(a, b):
    common = math.gcd(a, b)
    return (a // common, b // common)


def piece_of_cells(cells, count):
    """The piece of the chosen ones of so many cells of one length, by a number's bits."""
    spans = []
    k = 0
    while k < count:
        begin = k
        while k < count and cells >> k & 1:
            k += 1
        if k > begin:
            spans.append((end(begin, count), end(k, count)))
        k += 1
    return spans


def assert_piece(case, piece):
    """The form of a piece, asked for independently of the program."""
    case.assertIs(type(piece), list)
    last = None
    for span in piece:
        case.assertIs(type(span), tuple)
        case.assertEqual(len(span), 2)
        for point in span:
            case.assertIs(type(point), tuple)
            case.assertEqual([type(number) for number in point], [int, int])
            case.assertEqual(math.gcd(*point), 1)
            case.assertGreater(point[1], 0)
            case.assertTrue(0 <= point[0] <= point[1])
        start, stop = (fractions.Fraction(*point) for point in span)
        case.assertLess(start, stop)
        if last is not None:
            case.assertLess(last, start)
        last = stop


def assert_refused(case, error_class, ask, *things):
    """Refused by just that class; not by assertRaises, which takes the classes under it too."""
    try:
        ask(*things)
    except error_class as error:
        case.assertIs(type(error), error_class)
    else:
        case.fail("not refused")
