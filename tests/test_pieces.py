"""Points 2, 7 and 8, and point 1 as far as it speaks of pieces."""

import copy
import itertools
import unittest

from fairknife.errors import BadPiece
from fairknife.pieces import deals, joined, shared, whole, without
from tests.helpers import HUGE, assert_piece, assert_refused, bad_pieces, no_lists, piece_of_cells

CAKE = [((0, 1), (1, 1))]


def halves():
    return [((0, 1), (1, 2))], [((1, 2), (1, 1))]


class PieceCase(unittest.TestCase):
    def assert_answers(self, one, other, both, common, one_alone, other_alone):
        for ask, first, second, told in [
                (joined, one, other, both), (joined, other, one, both),
                (shared, one, other, common), (shared, other, one, common),
                (without, one, other, one_alone), (without, other, one, other_alone)]:
            before = copy.deepcopy((first, second))
            answer = ask(first, second)
            self.assertTrue(answer == told, ask)
            assert_piece(self, answer)
            self.assertTrue((first, second) == before, ask)


class Whole(unittest.TestCase):
    def test_whole(self):
        self.assertEqual(whole(), CAKE)
        assert_piece(self, whole())

    def test_an_answer_that_is_changed_changes_nothing(self):
        whole().clear()
        self.assertEqual(whole(), CAKE)
        answer = whole()
        answer[0] = None
        answer.append(None)
        self.assertEqual(whole(), CAKE)
        self.assertEqual(without(whole(), []), CAKE)
        self.assertIs(deals([whole()]), True)


class TwoPieces(PieceCase):
    def test_apart(self):
        one = [((0, 1), (1, 4))]
        other = [((1, 2), (3, 4))]
        self.assert_answers(one, other, [((0, 1), (1, 4)), ((1, 2), (3, 4))], [], one, other)

    def test_apart_by_turns(self):
        one = [((0, 1), (1, 7)), ((4, 7), (5, 7))]
        other = [((2, 7), (3, 7)), ((6, 7), (1, 1))]
        self.assert_answers(one, other, [one[0], other[0], one[1], other[1]], [], one, other)

    def test_touching_at_a_single_point(self):
        one, other = halves()
        self.assert_answers(one, other, CAKE, [], one, other)

    def test_touching_on_both_sides(self):
        one = [((0, 1), (1, 3)), ((2, 3), (1, 1))]
        other = [((1, 3), (2, 3))]
        self.assert_answers(one, other, CAKE, [], one, other)

    def test_over_one_another(self):
        self.assert_answers([((0, 1), (2, 3))], [((1, 3), (1, 1))], CAKE, [((1, 3), (2, 3))],
                            [((0, 1), (1, 3))], [((2, 3), (1, 1))])

    def test_within(self):
        self.assert_answers(CAKE, [((1, 4), (1, 2))], CAKE, [((1, 4), (1, 2))],
                            [((0, 1), (1, 4)), ((1, 2), (1, 1))], [])

    def test_within_from_the_same_left_end(self):
        self.assert_answers(CAKE, [((0, 1), (1, 2))], CAKE, [((0, 1), (1, 2))], [((1, 2), (1, 1))], [])

    def test_within_to_the_same_right_end(self):
        self.assert_answers(CAKE, [((1, 2), (1, 1))], CAKE, [((1, 2), (1, 1))], [((0, 1), (1, 2))], [])

    def test_one_span_over_many(self):
        many = [((0, 1), (1, 5)), ((2, 5), (3, 5)), ((4, 5), (1, 1))]
        self.assert_answers(many, [((1, 10), (9, 10))], CAKE,
                            [((1, 10), (1, 5)), ((2, 5), (3, 5)), ((4, 5), (9, 10))],
                            [((0, 1), (1, 10)), ((9, 10), (1, 1))],
                            [((1, 5), (2, 5)), ((3, 5), (4, 5))])

    def test_alike(self):
        for piece in [CAKE, halves()[0], [((1, 7), (2, 7)), ((3, 7), (1, 1))], []]:
            self.assert_answers(piece, copy.deepcopy(piece), piece, piece, [], [])
            self.assert_answers(piece, piece, piece, piece, [], [])

    def test_no_spans(self):
        for piece in [CAKE, halves()[0], [((1, 7), (2, 7)), ((3, 7), (1, 1))], []]:
            self.assert_answers(piece, [], piece, [], piece, [])

    def test_ends_of_unlike_second_numbers(self):
        self.assert_answers([((1, 3), (2, 3))], [((1, 2), (3, 4))], [((1, 3), (3, 4))], [((1, 2), (2, 3))],
                            [((1, 3), (1, 2))], [((2, 3), (3, 4))])

    def test_very_large_numbers(self):
        low = (HUGE - 1, 2 * HUGE)
        high = (HUGE + 1, 2 * HUGE + 1)
        one = [((0, 1), high)]
        other = [(low, (1, 1))]
        self.assert_answers(one, other, CAKE, [(low, high)], [((0, 1), low)], [(high, (1, 1))])

    def test_all_pairs_on_a_grid(self):
        count = 6
        pieces = [piece_of_cells(cells, count) for cells in range(2 ** count)]
        for x, one in enumerate(pieces):
            for y, other in enumerate(pieces):
                self.assertEqual(joined(one, other), pieces[x | y])
                self.assertEqual(shared(one, other), pieces[x & y])
                self.assertEqual(without(one, other), pieces[x & ~y])
        self.assertEqual(pieces, [piece_of_cells(cells, count) for cells in range(2 ** count)])

    def test_all_pairs_on_unlike_grids(self):
        for x in range(2 ** 4):
            for y in range(2 ** 6):
                # Both grids lie on one of twelve cells.
                one = sum(7 << 3 * k for k in range(4) if x >> k & 1)
                other = sum(3 << 2 * k for k in range(6) if y >> k & 1)
                self.assert_answers(piece_of_cells(x, 4), piece_of_cells(y, 6),
                                    piece_of_cells(one | other, 12), piece_of_cells(one & other, 12),
                                    piece_of_cells(one & ~other, 12), piece_of_cells(other & ~one, 12))

    def test_an_answer_that_is_changed_changes_nothing(self):
        for ask in [joined, shared, without]:
            for one, other in itertools.product([CAKE, halves()[0], []], repeat=2):
                before = copy.deepcopy((one, other))
                told = ask(one, other)
                kept = list(told)
                again = ask(one, other)
                told.append(None)
                told.clear()
                self.assertEqual((one, other), before)
                self.assertEqual(again, kept)
                self.assertEqual(ask(one, other), kept)

    def test_what_is_handed_in_and_changed_changes_no_answer(self):
        for ask, told in [(joined, CAKE), (shared, halves()[0]), (without, halves()[1])]:
            one = whole()
            other = halves()[0]
            answer = ask(one, other)
            one.clear()
            other.append(None)
            self.assertEqual(answer, told)
        for ask in [joined, without]:
            one = whole()
            answer = ask(one, [])
            one.clear()
            self.assertEqual(answer, CAKE)


class Deals(unittest.TestCase):
    def assert_deals(self, pieces, told):
        for order in itertools.permutations(pieces):
            handed = list(order)
            before = copy.deepcopy(handed)
            self.assertIs(deals(handed), told)
            self.assertEqual(handed, before)

    def test_dealt(self):
        one, other = halves()
        self.assert_deals([CAKE], True)
        self.assert_deals([one, other], True)
        self.assert_deals([[((0, 1), (1, 3)), ((2, 3), (1, 1))], [((1, 3), (2, 3))]], True)
        self.assert_deals([[((0, 1), (1, 4)), ((1, 2), (3, 4))], [((1, 4), (1, 2))], [((3, 4), (1, 1))]], True)

    def test_with_pieces_without_spans(self):
        one, other = halves()
        self.assert_deals([[], CAKE, []], True)
        self.assert_deals([one, [], other], True)
        self.assert_deals([[], one], False)
        self.assert_deals([[]], False)
        self.assert_deals([[], []], False)

    def test_no_pieces(self):
        self.assertIs(deals([]), False)

    def test_a_stretch_left_out(self):
        self.assert_deals([[((1, 9), (1, 2))], [((1, 2), (1, 1))]], False)
        self.assert_deals([[((0, 1), (1, 2))], [((1, 2), (8, 9))]], False)
        self.assert_deals([[((0, 1), (1, 3))], [((1, 2), (1, 1))]], False)
        self.assert_deals([[((0, 1), (1, 3)), ((1, 2), (1, 1))]], False)
        self.assert_deals([[((1, 1000), (1, 1))]], False)
        self.assert_deals([[((0, 1), (HUGE - 1, HUGE))]], False)

    def test_a_stretch_twice(self):
        one, other = halves()
        self.assert_deals([CAKE, CAKE], False)
        self.assert_deals([CAKE, one], False)
        self.assert_deals([CAKE, other], False)
        self.assert_deals([one, one, other], False)
        self.assert_deals([one, other, other], False)
        self.assert_deals([CAKE, [((1, 3), (2, 3))]], False)
        self.assert_deals([[((0, 1), (2, 3))], [((1, 3), (1, 1))]], False)
        self.assert_deals([one, other, [((1, 3), (2, 3))]], False)

    def test_a_stretch_twice_and_one_left_out(self):
        # The lengths together are the cake's.
        self.assert_deals([[((0, 1), (1, 2))], [((1, 4), (3, 4))]], False)
        self.assert_deals([halves()[0], halves()[0]], False)
        self.assert_deals([halves()[1], halves()[1]], False)

    def test_very_large_numbers(self):
        point = (HUGE - 1, HUGE)
        self.assertIs(deals([[((0, 1), point)], [(point, (1, 1))]]), True)
        self.assertIs(deals([[((0, 1), point)], [((HUGE, HUGE + 1), (1, 1))]]), False)

    def test_many_pieces(self):
        count = 2000
        pieces = [piece_of_cells(1 << k, count) for k in range(count)]
        self.assertIs(deals(pieces), True)
        self.assertIs(deals(pieces[::-1]), True)
        self.assertIs(deals(pieces[:1000] + pieces[1001:]), False)
        self.assertIs(deals(pieces + pieces[:1]), False)

    def test_all_threes_on_a_grid(self):
        pieces = [piece_of_cells(cells, 4) for cells in range(16)]
        for three in itertools.product(range(16), repeat=3):
            told = all(sum(cells >> k & 1 for cells in three) == 1 for k in range(4))
            self.assertIs(deals([pieces[cells] for cells in three]), told)

    def test_a_piece_that_is_changed_after_the_answer(self):
        pieces = [whole()]
        self.assertIs(deals(pieces), True)
        pieces[0].clear()
        self.assertIs(deals(pieces), False)
        self.assertIs(deals([whole()]), True)


class Refusals(unittest.TestCase):
    def assert_refused(self, ask, *things):
        assert_refused(self, BadPiece, ask, *things)

    def test_no_piece_in_either_place(self):
        for place, thing in enumerate(bad_pieces() + no_lists()):
            for ask in [joined, shared, without]:
                with self.subTest(place=place, ask=ask):
                    for good in [[], CAKE, [((1, 3), (1, 2))]]:
                        self.assert_refused(ask, thing, good)
                        self.assert_refused(ask, good, thing)
                    self.assert_refused(ask, thing, thing)

    def test_deals_of_what_is_no_list(self):
        for place, thing in enumerate(no_lists()):
            with self.subTest(place=place):
                self.assert_refused(deals, thing)

    def test_deals_of_what_has_no_piece_in_it(self):
        one, other = halves()
        for place, thing in enumerate(bad_pieces() + no_lists()):
            with self.subTest(place=place):
                self.assert_refused(deals, [thing])
                self.assert_refused(deals, [thing, CAKE])
                # Refused too where the answer could be told without looking at it.
                self.assert_refused(deals, [CAKE, thing])
                self.assert_refused(deals, [CAKE, CAKE, thing])
                self.assert_refused(deals, [one, thing, other])
                self.assert_refused(deals, [[], thing])

    def test_deals_of_a_piece_in_the_place_of_a_list_of_them(self):
        self.assert_refused(deals, CAKE)
        self.assert_refused(deals, halves()[0])

    def test_what_is_refused_is_not_changed(self):
        bad = [((0, 1), (1, 2)), ((1, 2), (1, 1))]
        good = whole()
        for ask in [joined, shared, without]:
            self.assert_refused(ask, good, bad)
            self.assert_refused(ask, bad, good)
        self.assert_refused(deals, [good, bad])
        self.assertEqual(bad, [((0, 1), (1, 2)), ((1, 2), (1, 1))])
        self.assertEqual(good, CAKE)
