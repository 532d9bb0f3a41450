"""Points 3 to 6, and point 1 as far as it speaks of tastes."""

import copy
import unittest

from fairknife.errors import BadPiece, BadTaste, TooLittle
from fairknife.pieces import joined
from fairknife.tastes import Taste
from tests import reckon
from tests.helpers import (HUGE, Prickly, assert_piece, assert_refused, bad_pieces, no_fractions, no_lists,
                           no_spans, no_whole_numbers, piece_of_cells)

CAKE = [((0, 1), (1, 1))]
QUARTER = [((1, 4), 3), ((1, 1), 1)]
THREE = [((1, 3), 5), ((2, 3), 1), ((1, 1), 3)]
EIGHT = [((1, 8), 1), ((1, 4), 9), ((3, 8), 2), ((1, 2), 8), ((5, 8), 3), ((3, 4), 7), ((7, 8), 4), ((1, 1), 6)]


class TasteCase(unittest.TestCase):
    def assert_fraction(self, answer, told):
        self.assertIs(type(answer), tuple)
        self.assertEqual([type(part) for part in answer], [int, int])
        self.assertTrue(answer == told, "another fraction")


class Steps(unittest.TestCase):
    def test_as_told(self):
        for steps in reckon.many_steps(60, 3):
            self.assertEqual(Taste(list(steps)).steps(), steps)

    def test_kinds(self):
        answer = Taste(THREE).steps()
        self.assertIs(type(answer), list)
        for step in answer:
            self.assertEqual([type(step), type(step[0]), type(step[1])], [tuple, tuple, int])

    def test_like_weights_and_common_divisors_stay(self):
        for steps in [[((1, 2), 4), ((1, 1), 4)], [((1, 2), 20), ((1, 1), 10)], [((1, 1), 1000)]]:
            self.assertEqual(Taste(list(steps)).steps(), steps)

    def test_the_bounds_are_allowed(self):
        Taste([((1, 1), 1)])
        Taste([((1, 1), 1000)])
        Taste([((1, 1000), 1000), ((999, 1000), 1), ((1, 1), 1000)])
        Taste(list(EIGHT))

    def test_the_list_is_not_changed(self):
        for told in [QUARTER, THREE, EIGHT]:
            steps = copy.deepcopy(told)
            taste = Taste(steps)
            taste.steps()
            taste.worth(CAKE)
            taste.mark((0, 1), (1, 2))
            taste.cut(CAKE, (1, 2))
            self.assertEqual(steps, told)

    def test_changed_behind_the_making(self):
        steps = list(THREE)
        taste = Taste(steps)
        steps[0] = ((1, 9), 1)
        steps.append(None)
        self.assertEqual(taste.steps(), THREE)
        self.assertEqual(taste.worth([((0, 1), (1, 3))]), (5, 9))
        self.assertEqual(taste.mark((0, 1), (5, 9)), (1, 3))
        self.assertEqual(taste.cut(CAKE, (5, 9))[0], [((0, 1), (1, 3))])
        steps.clear()
        self.assertEqual(taste.steps(), THREE)
        self.assertEqual(taste.worth([((0, 1), (1, 3))]), (5, 9))

    def test_answer_changed(self):
        taste = Taste(list(THREE))
        answer = taste.steps()
        answer[0] = ((1, 9), 1)
        answer.clear()
        self.assertEqual(taste.steps(), THREE)
        self.assertEqual(taste.worth([((0, 1), (1, 3))]), (5, 9))
        self.assertEqual(taste.mark((0, 1), (5, 9)), (1, 3))

    def test_tastes_of_one_list_are_apart(self):
        steps = list(QUARTER)
        one = Taste(steps)
        steps[0] = ((1, 2), 3)
        other = Taste(steps)
        self.assertEqual(one.steps(), QUARTER)
        self.assertEqual(other.steps(), [((1, 2), 3), ((1, 1), 1)])
        self.assertEqual(one.worth([((0, 1), (1, 4))]), (1, 2))
        self.assertEqual(other.worth([((0, 1), (1, 2))]), (3, 4))


class Worth(TasteCase):
    def test_by_hand(self):
        # Of QUARTER the first quarter is worth 3, the rest 3 too; of THREE the thirds are worth 5, 1, 3.
        for steps, piece, told in [
                (QUARTER, [((0, 1), (1, 4))], (1, 2)),
                (QUARTER, [((0, 1), (1, 8))], (1, 4)),
                (QUARTER, [((1, 8), (1, 2))], (5, 12)),
                (QUARTER, [((1, 2), (1, 1))], (1, 3)),
                (THREE, [((1, 9), (2, 9))], (5, 27)),
                (THREE, [((1, 6), (5, 6))], (5, 9)),
                (THREE, [((0, 1), (1, 3)), ((2, 3), (1, 1))], (8, 9)),
                (THREE, [((1, 6), (1, 3)), ((1, 2), (2, 3)), ((5, 6), (1, 1))], (1, 2)),
                ([((1, 1), 7)], [((2, 5), (3, 5))], (1, 5))]:
            self.assert_fraction(Taste(list(steps)).worth(piece), told)

    def test_whole_cake_and_no_spans(self):
        for steps in reckon.many_steps(60, 4):
            taste = Taste(steps)
            self.assert_fraction(taste.worth(CAKE), (1, 1))
            self.assert_fraction(taste.worth([]), (0, 1))

    def test_pieces_on_a_grid(self):
        pieces = [piece_of_cells(cells, 6) for cells in range(64)]
        for steps in reckon.many_steps(40, 5):
            taste = Taste(steps)
            for piece in pieces:
                self.assert_fraction(taste.worth(piece), reckon.pair(reckon.worth(steps, piece)))
        self.assertEqual(pieces, [piece_of_cells(cells, 6) for cells in range(64)])

    def test_each_step_by_itself(self):
        for steps in reckon.many_steps(40, 6):
            taste = Taste(steps)
            start = (0, 1)
            for stop, weight in steps:
                length = reckon.number(stop) - reckon.number(start)
                told = length * weight / reckon.heft(steps, 0, 1)
                self.assert_fraction(taste.worth([(start, stop)]), reckon.pair(told))
                start = stop

    def test_weights_alone_in_proportion_count(self):
        one = Taste([((1, 2), 2), ((1, 1), 3)])
        other = Taste([((1, 2), 200), ((1, 1), 300)])
        for piece in [piece_of_cells(cells, 5) for cells in range(32)]:
            self.assertEqual(one.worth(piece), other.worth(piece))

    def test_very_large_numbers(self):
        self.assert_fraction(Taste(list(QUARTER)).worth([((0, 1), (1, HUGE))]), (1, HUGE // 2))

    def test_the_piece_is_not_changed(self):
        piece = [((0, 1), (1, 3)), ((1, 2), (1, 1))]
        taste = Taste(list(THREE))
        before = taste.worth(piece)
        self.assertEqual(piece, [((0, 1), (1, 3)), ((1, 2), (1, 1))])
        piece.clear()
        self.assertEqual(taste.worth(piece), (0, 1))
        self.assertEqual(taste.worth([((0, 1), (1, 3)), ((1, 2), (1, 1))]), before)


class Mark(TasteCase):
    def test_by_hand(self):
        for steps, start, share, told in [
                (QUARTER, (0, 1), (1, 4), (1, 8)),
                (QUARTER, (0, 1), (1, 2), (1, 4)),
                (QUARTER, (0, 1), (2, 3), (1, 2)),
                (QUARTER, (0, 1), (1, 1), (1, 1)),
                (QUARTER, (1, 8), (1, 4), (1, 4)),
                (QUARTER, (1, 8), (1, 2), (5, 8)),
                (QUARTER, (1, 8), (3, 4), (1, 1)),
                (QUARTER, (1, 4), (1, 6), (1, 2)),
                (QUARTER, (1, 4), (1, 2), (1, 1)),
                (QUARTER, (1, 2), (1, 3), (1, 1)),
                (THREE, (1, 6), (11, 18), (8, 9)),
                ([((1, 1), 7)], (2, 5), (1, 5), (3, 5))]:
            self.assert_fraction(Taste(list(steps)).mark(start, share), told)

    def test_none_if_all_is_worth_less(self):
        taste = Taste(list(QUARTER))
        for start, share in [((0, 1), (2, 1)), ((0, 1), (HUGE + 1, HUGE)), ((1, 8), (7, 9)), ((1, 4), (501, 1000)),
                             ((1, 4), (1, 1)), ((1, 2), (1, 2)), ((1, 1), (1, 2)), ((1, 1), (1, HUGE)),
                             ((1, 1), (1, 1))]:
            self.assertIsNone(taste.mark(start, share))

    def test_from_many_points_for_many_shares(self):
        for steps in reckon.many_steps(30, 7):
            taste = Taste(steps)
            ends = [reckon.Fraction(0)] + [reckon.number(step[0]) for step in steps]
            points = ends + [(one + other) / 2 for one, other in zip(ends, ends[1:])]
            for start in points:
                rest = reckon.span_worth(steps, start, 1)
                shares = [reckon.span_worth(steps, start, point) for point in points if point > start]
                shares += [rest / 3, rest, rest + reckon.Fraction(1, HUGE), rest * 2, reckon.Fraction(1)]
                for share in shares:
                    if share > 0:
                        self.assert_mark(taste, steps, start, share)

    def assert_mark(self, taste, steps, start, share):
        told = reckon.mark(steps, start, share)
        answer = taste.mark(reckon.pair(start), reckon.pair(share))
        if told is None:
            self.assertIsNone(answer)
        else:
            self.assert_fraction(answer, reckon.pair(told))
            self.assertTrue(taste.worth([(reckon.pair(start), answer)]) == reckon.pair(share))
            self.assertTrue(reckon.span_worth(steps, start, told) == share)

    def test_all_the_rest_is_marked_at_1(self):
        for steps in reckon.many_steps(30, 8):
            taste = Taste(steps)
            for start in [(0, 1), (1, 7), (1, 2), (999, 1000)]:
                self.assertEqual(taste.mark(start, taste.worth([(start, (1, 1))])), (1, 1))

    def test_somewhat_beyond(self):
        taste = Taste(list(QUARTER))
        self.assertIsNone(taste.mark((3, 2), (1, 2)))
        for start in [(0, 1), (1, 8), (1, 4), (1, 1)]:
            self.assertEqual(taste.mark(start, (0, 1)), start)

    def test_asked_again(self):
        taste = Taste(list(THREE))
        told = [taste.mark((1, 6), (1, k)) for k in range(1, 9)]
        taste.cut(CAKE, (1, 2))
        self.assertEqual([taste.mark((1, 6), (1, k)) for k in range(1, 9)], told)


class Cut(TasteCase):
    def test_by_hand(self):
        gap = [((0, 1), (1, 4)), ((1, 2), (1, 1))]
        for piece, share, told in [
                (CAKE, (0, 1), ([], CAKE)),
                (CAKE, (1, 4), ([((0, 1), (1, 8))], [((1, 8), (1, 1))])),
                (CAKE, (1, 2), ([((0, 1), (1, 4))], [((1, 4), (1, 1))])),
                (CAKE, (2, 3), ([((0, 1), (1, 2))], [((1, 2), (1, 1))])),
                (CAKE, (1, 1), (CAKE, [])),
                ([((1, 4), (1, 2))], (1, 6), ([((1, 4), (1, 2))], [])),
                (gap, (0, 1), ([], gap)),
                (gap, (1, 4), ([((0, 1), (1, 8))], [((1, 8), (1, 4)), ((1, 2), (1, 1))])),
                (gap, (1, 2), ([((0, 1), (1, 4))], [((1, 2), (1, 1))])),
                (gap, (2, 3), ([((0, 1), (1, 4)), ((1, 2), (3, 4))], [((3, 4), (1, 1))])),
                (gap, (5, 6), (gap, [])),
                ([], (0, 1), ([], []))]:
            answer = Taste(list(QUARTER)).cut(piece, share)
            self.assertIs(type(answer), tuple)
            self.assertEqual(answer, told)

    def test_many(self):
        pieces = [piece_of_cells(cells, 6) for cells in range(64)]
        for steps in reckon.many_steps(24, 9):
            taste = Taste(steps)
            for piece in pieces:
                self.assert_cuts(taste, steps, piece)
        self.assertEqual(pieces, [piece_of_cells(cells, 6) for cells in range(64)])

    def assert_cuts(self, taste, steps, piece):
        total = reckon.worth(steps, piece)
        # The worths of the first spans alone: those cuts fall into gaps.
        gaps = [reckon.worth(steps, piece[:k]) for k in range(len(piece) + 1)]
        for share in gaps + [total / 3, total * 5 / 7]:
            first, second = taste.cut(piece, reckon.pair(share))
            assert_piece(self, first)
            assert_piece(self, second)
            self.assertEqual(reckon.worth(steps, first), share)
            self.assertEqual(reckon.worth(steps, second), total - share)
            self.assertEqual(joined(first, second), piece)
            if first and second:
                self.assertLessEqual(reckon.number(first[-1][1]), reckon.number(second[0][0]))
        for place, share in enumerate(gaps):
            self.assertEqual(taste.cut(piece, reckon.pair(share)), (piece[:place], piece[place:]))
        for more in [total + reckon.Fraction(1, HUGE), total + 1]:
            assert_refused(self, TooLittle, taste.cut, piece, reckon.pair(more))

    def test_too_little(self):
        taste = Taste(list(QUARTER))
        for piece, share in [(CAKE, (2, 1)), (CAKE, (1001, 1000)), (CAKE, (HUGE + 1, HUGE)), ([], (1, HUGE)),
                             ([], (1, 1)), ([((0, 1), (1, 4))], (501, 1000)), ([((0, 1), (1, 4))], (2, 3)),
                             ([((0, 1), (1, 4)), ((1, 2), (1, 1))], (6, 7))]:
            before = copy.deepcopy(piece)
            assert_refused(self, TooLittle, taste.cut, piece, share)
            self.assertEqual(piece, before)

    def test_what_is_changed_changes_nothing(self):
        taste = Taste(list(QUARTER))
        for share in [(0, 1), (1, 4), (1, 2), (2, 3), (5, 6)]:
            piece = [((0, 1), (1, 4)), ((1, 2), (1, 1))]
            told = copy.deepcopy(taste.cut(piece, share))
            answer = taste.cut(piece, share)
            answer[0].append(None)
            answer[1].clear()
            self.assertEqual(piece, [((0, 1), (1, 4)), ((1, 2), (1, 1))])
            self.assertEqual(taste.cut(piece, share), told)
            answer = taste.cut(piece, share)
            piece.clear()
            self.assertEqual(answer, told)

    def test_the_two_pieces_are_apart(self):
        first, second = Taste(list(QUARTER)).cut([], (0, 1))
        first.append(None)
        self.assertEqual(second, [])


def bad_steps():
    """Things that are no list of steps."""
    one = ((1, 1), 1)
    bad = [
        [],
        # Nine steps, and very many.
        [((k, 9), 1) for k in (1, 2)] + [((1, 3), 1)] + [((k, 9), 1) for k in (4, 5)]
        + [((2, 3), 1)] + [((k, 9), 1) for k in (7, 8)] + [one],
        [one] * 9, [one] * 5000, [((1, 2), 1)] * 8 + [one],
        # Steps that are no pairs.
        [[(1, 1), 1]], [((1, 1),)], [((1, 1), 1, 1)], [((1, 1), 1, None)], [()], [(1, 1, 1)], [(1, 1)], ["11"],
        [((1, 2), 1), [(1, 1), 1]], [[(1, 2), 1], one], [((1, 2), 1), None], [None, one],
        # A weight in the end's place.
        [(1, (1, 1))], [(1, 1)], [((1, 2), 1), (1, (1, 1))],
        # Ends that don't rise.
        [one, one], [((1, 2), 1), ((1, 2), 2), one], [((1, 2), 1), ((1, 3), 2), one],
        [((1, 3), 1), ((2, 3), 1), ((1, 2), 1), one], [one, ((1, 2), 1)], [((3, 2), 1), one], [((2, 1), 1), one],
        # An end of 0.
        [((0, 1), 1)], [((0, 1), 1), one], [((0, 1), 1), ((1, 2), 1), one],
        # A last end other than 1.
        [((1, 2), 1)], [((999, 1000), 1)], [((2, 1), 1)], [((1001, 1000), 1)], [((1, 3), 1), ((2, 3), 1)],
        [one, ((2, 1), 1)], [((1, 2), 1), ((3, 2), 1)],
        # Second numbers above 1000.
        [((1, 1001), 1), one], [((1000, 1001), 1), one], [((1, HUGE), 1), one], [((1, 2), 1), ((1000, 1999), 1), one],
        # Ends that aren't in lowest terms.
        [((2, 2), 1)], [((2, 4), 1), one], [((1, 2), 1), ((7, 7), 1)], [((500, 1000), 1), one],
    ]
    for weight in [0, -1, -1000, 1001, 5000, HUGE, -HUGE] + no_whole_numbers():
        bad += [[((1, 1), weight)], [((1, 2), weight), one], [((1, 2), 1), ((1, 1), weight)]]
    for stop in no_fractions():
        bad += [[(stop, 1)], [(stop, 1), one], [((1, 2), 1), (stop, 1)], [((1, 2), 1), (stop, 1), one]]
    for step in no_spans() + [Prickly()]:
        bad += [[step], [step, one], [((1, 2), 1), step], [((1, 2), 1), step, one]]
    itself = []
    itself.append(itself)
    return bad + [itself]


class Refusals(unittest.TestCase):
    def test_no_taste(self):
        for place, steps in enumerate(bad_steps()):
            with self.subTest(place=place):
                assert_refused(self, BadTaste, Taste, steps)

    def test_no_list(self):
        one = ((1, 1), 1)
        for place, thing in enumerate(no_lists() + [(one,), {one: one}, {one}, iter([one]), one, "1@1",
        Taste([one])]):
            with self.subTest(place=place):
                assert_refused(self, BadTaste, Taste, thing)

    def test_what_is_refused_is_not_changed(self):
        steps = [((1, 2), 1), ((1, 2), 1), ((1, 1), 0)]
        assert_refused(self, BadTaste, Taste, steps)
        self.assertEqual(steps, [((1, 2), 1), ((1, 2), 1), ((1, 1), 0)])

    def test_worth_of_no_piece(self):
        taste = Taste(list(QUARTER))
        for place, thing in enumerate(bad_pieces() + no_lists()):
            with self.subTest(place=place):
                assert_refused(self, BadPiece, taste.worth, thing)
        self.assertEqual(taste.worth(CAKE), (1, 1))

    def test_cut_of_no_piece(self):
        # Ahead of the share: whatever it is, also one that is more than any piece's worth.
        taste = Taste(list(QUARTER))
        for place, thing in enumerate(bad_pieces() + no_lists()):
            with self.subTest(place=place):
                for share in [(0, 1), (1, 2), (1, 1), (2, 1), (HUGE, 1)]:
                    assert_refused(self, BadPiece, taste.cut, thing, share)
