"""Point 9, and point 1 as far as it speaks of envy."""

import copy
import random
import unittest

from fairknife.envy import envy
from fairknife.errors import BadPiece, BadTakers
from fairknife.tastes import Taste
from tests import reckon
from tests.helpers import assert_refused, bad_pieces, no_lists, no_tastes, piece_of_cells

CAKE = [((0, 1), (1, 1))]
LEFT = [((0, 1), (1, 2))]
RIGHT = [((1, 2), (1, 1))]
FLAT = [((1, 1), 1)]
QUARTER = [((1, 4), 3), ((1, 1), 1)]


def tastes_of(told):
    return [Taste(list(steps)) for steps in told]


def reckoned(pieces, told):
    """All triples, from the worths alone."""
    found = []
    for taker, steps in enumerate(told):
        for other, piece in enumerate(pieces):
            more = reckon.worth(steps, piece) - reckon.worth(steps, pieces[taker])
            if more > 0:
                found.append((taker, other, reckon.pair(more)))
    return found


class Envy(unittest.TestCase):
    def test_by_hand(self):
        # By QUARTER the left half is worth 2/3.
        for pieces, told, found in [
                ([CAKE], [FLAT], []),
                ([[]], [FLAT], []),
                ([LEFT, RIGHT], [FLAT, FLAT], []),
                ([LEFT, RIGHT], [FLAT, QUARTER], [(1, 0, (1, 3))]),
                ([RIGHT, LEFT], [FLAT, QUARTER], []),
                ([RIGHT, LEFT], [QUARTER, QUARTER], [(0, 1, (1, 3))]),
                ([CAKE, []], [FLAT, QUARTER], [(1, 0, (1, 1))]),
                ([[], CAKE, LEFT], [FLAT, FLAT, QUARTER],
                 [(0, 1, (1, 1)), (0, 2, (1, 2)), (2, 1, (1, 3))]),
                ([[], LEFT, RIGHT], [FLAT, FLAT, QUARTER],
                 [(0, 1, (1, 2)), (0, 2, (1, 2)), (2, 1, (1, 3))]),
                ([], [], [])]:
            self.assertEqual(envy(pieces, tastes_of(told)), found)

    def test_kinds(self):
        answer = envy([RIGHT, LEFT], tastes_of([QUARTER, QUARTER]))
        self.assertIs(type(answer), list)
        self.assertEqual([type(part) for part in answer[0]], [int, int, tuple])
        self.assertIs(type(answer[0]), tuple)

    def test_many(self):
        source = random.Random(1)
        told = reckon.many_steps(40, 10)
        some = 0
        for count in list(range(1, 7)) * 25:
            chosen = [source.choice(told) for taker in range(count)]
            pieces = [piece_of_cells(source.randrange(64), 6) for taker in range(count)]
            found = reckoned(pieces, chosen)
            self.assertEqual(envy(pieces, tastes_of(chosen)), found)
            some += len(found)
        self.assertGreater(some, 200)

    def test_dealings(self):
        source = random.Random(2)
        told = reckon.many_steps(40, 11)
        for count in list(range(1, 9)) * 10:
            chosen = [source.choice(told) for taker in range(count)]
            cells = [0] * count
            for cell in range(12):
                cells[source.randrange(count)] |= 1 << cell
            pieces = [piece_of_cells(those, 12) for those in cells]
            self.assertEqual(envy(pieces, tastes_of(chosen)), reckoned(pieces, chosen))

    def test_one_taste_for_all(self):
        taste = Taste(list(QUARTER))
        self.assertEqual(envy([LEFT, RIGHT, []], [taste] * 3),
                         [(1, 0, (1, 3)), (2, 0, (2, 3)), (2, 1, (1, 3))])

    def test_nothing_is_changed(self):
        pieces = [copy.deepcopy(RIGHT), copy.deepcopy(LEFT)]
        tastes = tastes_of([QUARTER, FLAT])
        before = list(tastes)
        answer = envy(pieces, tastes)
        self.assertEqual(pieces, [RIGHT, LEFT])
        self.assertEqual(tastes, before)
        self.assertEqual([taste.steps() for taste in tastes], [QUARTER, FLAT])
        answer.append(None)
        answer.clear()
        self.assertEqual(envy(pieces, tastes), [(0, 1, (1, 3))])
        answer = envy(pieces, tastes)
        pieces.clear()
        tastes.clear()
        self.assertEqual(answer, [(0, 1, (1, 3))])


class Refusals(unittest.TestCase):
    def test_no_list_of_tastes(self):
        taste = Taste(list(FLAT))
        for place, thing in enumerate(no_lists() + [taste, (taste,), {taste: taste}, {taste}, iter([taste])]):
            with self.subTest(place=place):
                for pieces in [[], [CAKE], [LEFT, RIGHT]]:
                    assert_refused(self, BadTakers, envy, pieces, thing)

    def test_no_taste_in_the_list(self):
        taste = Taste(list(FLAT))
        for place, thing in enumerate(no_tastes()):
            with self.subTest(place=place):
                assert_refused(self, BadTakers, envy, [CAKE], [thing])
                assert_refused(self, BadTakers, envy, [LEFT, RIGHT], [taste, thing])
                assert_refused(self, BadTakers, envy, [LEFT, RIGHT], [thing, taste])

    def test_no_list_of_pieces(self):
        taste = Taste(list(FLAT))
        for place, thing in enumerate(no_lists()):
            with self.subTest(place=place):
                for count in range(3):
                    assert_refused(self, BadTakers, envy, thing, [taste] * count)

    def test_another_count_of_pieces(self):
        taste = Taste(list(FLAT))
        for pieces in range(5):
            for tastes in range(5):
                if pieces != tastes:
                    assert_refused(self, BadTakers, envy, [LEFT] * pieces, [taste] * tastes)

    def test_no_piece(self):
        taste = Taste(list(FLAT))
        for place, thing in enumerate(bad_pieces() + no_lists()):
            with self.subTest(place=place):
                assert_refused(self, BadPiece, envy, [thing], [taste])
                assert_refused(self, BadPiece, envy, [thing, LEFT], [taste] * 2)
                assert_refused(self, BadPiece, envy, [LEFT, thing], [taste] * 2)
                assert_refused(self, BadPiece, envy, [LEFT, thing, RIGHT], [taste] * 3)

    def test_bad_takers_ahead_of_bad_piece(self):
        taste = Taste(list(FLAT))
        for place, thing in enumerate(bad_pieces() + no_lists()):
            with self.subTest(place=place):
                assert_refused(self, BadTakers, envy, [thing], [None])
                assert_refused(self, BadTakers, envy, [thing], None)
                assert_refused(self, BadTakers, envy, [thing], [])
                assert_refused(self, BadTakers, envy, [thing], [taste] * 2)
                assert_refused(self, BadTakers, envy, [thing, CAKE], [taste, FLAT])
