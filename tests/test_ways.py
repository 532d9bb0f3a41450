"""Points 10 to 15, and point 1 as far as it speaks of ways."""

import copy
import itertools
import random
import unittest

from fairknife import ways
from fairknife.envy import envy
from fairknife.errors import BadTakers
from fairknife.pieces import deals
from fairknife.tastes import Taste
from fairknife.ways import Alike, Choose, Even, Halves, Last, Three, Way
from tests import reckon
from tests.helpers import assert_piece, assert_refused, no_lists, no_tastes

CAKE = [((0, 1), (1, 1))]
FLAT = [((1, 1), 1)]
LEFTWARD = [((1, 4), 3), ((1, 1), 1)]
RIGHTWARD = [((3, 4), 1), ((1, 1), 3)]
SIDES = [((1, 4), 5), ((3, 4), 1), ((1, 1), 5)]
COUNTS = {Choose: [2], Last: list(range(1, 9)), Halves: list(range(1, 9)), Three: [3], Even: [2],
          Alike: list(range(1, 7))}


def tastes_of(told):
    return [Taste(list(steps)) for steps in told]


def span(start, stop):
    return [(reckon.pair(reckon.Fraction(start)), reckon.pair(reckon.Fraction(stop)))]


def easy_ones():
    """Takers' steps and their pieces, the same for Last and Halves."""
    return [([LEFTWARD], [CAKE]),
            ([FLAT, FLAT], [span(0, "1/2"), span("1/2", 1)]),
            ([FLAT, LEFTWARD], [span("1/4", 1), span(0, "1/4")]),
            ([LEFTWARD, FLAT], [span(0, "1/4"), span("1/4", 1)]),
            ([FLAT] * 4, [span(0, "1/4"), span("1/4", "1/2"), span("1/2", "3/4"), span("3/4", 1)])]


def lists_of_steps(counts, each, seed):
    """Takers' steps, for each count so many lists, with like ones among them."""
    source = random.Random(seed)
    told = reckon.many_steps(60, seed)
    for count in counts:
        for k in range(each):
            # Drawn from few tastes or from many, so that like ones and like marks come about.
            drawn = source.sample(told, source.choice([1, 2, 3, 20, 60]))
            yield [source.choice(drawn) for taker in range(count)]


class WayCase(unittest.TestCase):
    def dealt(self, way, told):
        """The pieces, with what holds of all ways looked at."""
        tastes = tastes_of(told)
        before = list(tastes)
        pieces = way().deal(tastes)
        self.assertEqual(len(tastes), len(before))
        self.assertTrue(all(one is other for one, other in zip(tastes, before)))
        self.assertEqual([taste.steps() for taste in tastes], told)
        self.assertIs(type(pieces), list)
        self.assertEqual(len(pieces), len(told))
        for piece in pieces:
            assert_piece(self, piece)
        self.assert_dealt(pieces)
        return pieces

    def assert_dealt(self, pieces):
        self.assertIs(deals(pieces), True)
        # Reckoned anew: the spans, sorted, make one chain.
        spans = sorted((reckon.number(start), reckon.number(stop)) for piece in pieces for start, stop in piece)
        self.assertEqual(spans[0][0], 0)
        self.assertEqual(spans[-1][1], 1)
        for one, other in zip(spans, spans[1:]):
            self.assertEqual(one[1], other[0])

    def assert_one_span_each(self, pieces):
        self.assertEqual([len(piece) for piece in pieces], [1] * len(pieces))

    def assert_fair(self, pieces, told):
        for steps, piece in zip(told, pieces):
            self.assertGreaterEqual(reckon.worth(steps, piece), reckon.Fraction(1, len(told)))


    def assert_like_shares(self, way, seed):
        """All takers have one taste: their spans follow each other, of one worth."""
        for steps in reckon.many_steps(20, seed):
            for count in COUNTS[way]:
                marks = [reckon.mark(steps, 0, reckon.Fraction(k, count)) for k in range(1, count)]
                marks = [reckon.Fraction(0)] + marks + [reckon.Fraction(1)]
                told = [span(one, other) for one, other in zip(marks, marks[1:])]
                self.assertEqual(self.dealt(way, [steps] * count), told)


class TestChoose(WayCase):
    def test_by_hand(self):
        for told, pieces in [
                ([FLAT, FLAT], [span("1/2", 1), span(0, "1/2")]),
                ([FLAT, LEFTWARD], [span("1/2", 1), span(0, "1/2")]),
                ([FLAT, RIGHTWARD], [span(0, "1/2"), span("1/2", 1)]),
                ([FLAT, SIDES], [span("1/2", 1), span(0, "1/2")]),
                ([LEFTWARD, FLAT], [span(0, "1/4"), span("1/4", 1)]),
                ([LEFTWARD, LEFTWARD], [span("1/4", 1), span(0, "1/4")]),
                ([RIGHTWARD, FLAT], [span("3/4", 1), span(0, "3/4")])]:
            self.assertEqual(self.dealt(Choose, told), pieces)

    def test_all_pairs(self):
        alike = 0
        for first, other in itertools.product(reckon.many_steps(30, 20), repeat=2):
            middle = reckon.mark(first, 0, reckon.HALF)
            left = reckon.span_worth(other, 0, middle)
            takes_left = left >= reckon.HALF
            alike += left == reckon.HALF
            spans = [span(middle, 1), span(0, middle)]
            self.assertEqual(self.dealt(Choose, [first, other]), spans if takes_left else spans[::-1])
        self.assertGreater(alike, 30)


class TestLast(WayCase):
    def test_by_hand(self):
        for told, pieces in easy_ones() + [
                # Marks from 0: 1/3, 1/6, 1/2; from 1/6: 1/2, 2/3; the rest.
                ([FLAT, LEFTWARD, RIGHTWARD], [span("1/6", "1/2"), span(0, "1/6"), span("1/2", 1)])]:
            self.assertEqual(self.dealt(Last, told), pieces)

    def reckoned(self, told):
        pieces = {}
        start = reckon.Fraction(0)
        share = reckon.Fraction(1, len(told))
        while len(pieces) < len(told) - 1:
            marks = [(reckon.mark(told[taker], start, share), taker)
                     for taker in range(len(told)) if taker not in pieces]
            stop, taker = min(marks)
            self.ties += [mark for mark, other in marks].count(stop) > 1
            pieces[taker] = span(start, stop)
            start = stop
        return [pieces.get(taker, span(start, 1)) for taker in range(len(told))]

    def test_many(self):
        self.ties = 0
        for told in lists_of_steps(COUNTS[Last], 40, 21):
            pieces = self.dealt(Last, told)
            self.assertEqual(pieces, self.reckoned(told))
            self.assert_one_span_each(pieces)
            self.assert_fair(pieces, told)
        self.assertGreater(self.ties, 100)

    def test_one_taste_for_all(self):
        self.assert_like_shares(Last, 22)


class TestHalves(WayCase):
    def test_by_hand(self):
        for told, pieces in easy_ones() + [
                # A third of the cake: 1/3, 1/6, 1/2; of 1/6 to 1 half: 7/12 and 13/18.
                ([FLAT, LEFTWARD, RIGHTWARD], [span("1/6", "7/12"), span(0, "1/6"), span("7/12", 1)]),
                # Half the cake: 3/4, 1/2, 1/4, 1/2. The taker 1 comes ahead of 3, so it is 2 and 1 up to 1/2:
                # half of it 1/6 and 1/4; of the rest half: 5/6 and 3/4.
                ([RIGHTWARD, FLAT, LEFTWARD, FLAT],
                 [span("3/4", 1), span("1/6", "1/2"), span(0, "1/6"), span("1/2", "3/4")])]:
            self.assertEqual(self.dealt(Halves, told), pieces)

    def reckoned(self, told, takers, start, stop):
        if len(takers) == 1:
            return {takers[0]: span(start, stop)}
        half = len(takers) // 2
        marks = []
        for taker in takers:
            share = reckon.span_worth(told[taker], start, stop) * half / len(takers)
            marks.append((reckon.mark(told[taker], start, share), taker))
        marks.sort()
        point = marks[half - 1][0]
        self.ties += marks[half][0] == point
        pieces = self.reckoned(told, sorted(taker for mark, taker in marks[:half]), start, point)
        pieces.update(self.reckoned(told, sorted(taker for mark, taker in marks[half:]), point, stop))
        return pieces

    def test_many(self):
        self.ties = 0
        for told in lists_of_steps(COUNTS[Halves], 40, 23):
            pieces = self.dealt(Halves, told)
            reckoned = self.reckoned(told, list(range(len(told))), reckon.Fraction(0), reckon.Fraction(1))
            self.assertEqual(pieces, [reckoned[taker] for taker in range(len(told))])
            self.assert_one_span_each(pieces)
            self.assert_fair(pieces, told)
        self.assertGreater(self.ties, 100)

    def test_one_taste_for_all(self):
        self.assert_like_shares(Halves, 24)


class TestThree(WayCase):
    def assert_three(self, told):
        pieces = self.dealt(Three, told)
        for steps, own in zip(told, pieces):
            for other in pieces:
                self.assertGreaterEqual(reckon.worth(steps, own), reckon.worth(steps, other))
        self.assertEqual(envy(pieces, tastes_of(told)), [])
        spans = sum(len(piece) for piece in pieces)
        self.assertLessEqual(spans, 8)
        return spans

    def test_all_threes(self):
        counts = [self.assert_three(list(told)) for told in itertools.product(reckon.many_steps(11, 25), repeat=3)]
        # Dealings with a span cut off and ones without are among them.
        self.assertIn(3, counts)
        self.assertGreater(max(counts), 3)

    def test_many(self):
        for told in lists_of_steps([3], 400, 26):
            self.assert_three(told)

    def test_steps_of_few_sorts(self):
        # Small weights on one grid: worths that are alike come about often.
        told = [[((1, 3), a), ((2, 3), b), ((1, 1), c)] for a in (1, 2) for b in (1, 3) for c in (1, 2)]
        for three in itertools.product(told, repeat=3):
            self.assert_three(list(three))

    def test_one_taste_for_all(self):
        for steps in reckon.many_steps(20, 27):
            self.assert_three([steps] * 3)


class TestEven(WayCase):
    def assert_even(self, told):
        pieces = self.dealt(Even, told)
        self.assertEqual(len(pieces[0]), 1)
        for steps in told:
            for piece in pieces:
                self.assertEqual(reckon.worth(steps, piece), reckon.HALF)
        return pieces

    def test_by_hand(self):
        # There is one such span for each of these: the other one's half from x on ends at x + 1/2.
        for told, pieces in [
                ([FLAT, LEFTWARD], [span("1/8", "5/8"), span(0, "1/8") + span("5/8", 1)]),
                ([FLAT, RIGHTWARD], [span("3/8", "7/8"), span(0, "3/8") + span("7/8", 1)])]:
            self.assertEqual(self.assert_even(told), pieces)

    def test_all_pairs(self):
        for told in itertools.product(reckon.many_steps(36, 28), repeat=2):
            self.assert_even(list(told))

    def test_steps_of_few_sorts(self):
        told = [[((1, 4), a), ((1, 2), b), ((3, 4), c), ((1, 1), d)]
                for a in (1, 2) for b in (1, 3) for c in (1, 3) for d in (1, 2)]
        for two in itertools.product(told, repeat=2):
            self.assert_even(list(two))

    def test_one_taste_for_both(self):
        for steps in reckon.many_steps(40, 29):
            self.assert_even([steps, steps])


class TestAlike(WayCase):
    def assert_alike(self, told):
        pieces = self.dealt(Alike, told)
        self.assert_one_span_each(pieces)
        for one, other in zip(pieces, pieces[1:]):
            self.assertEqual(one[0][1], other[0][0])
        worths = [reckon.worth(steps, piece) for steps, piece in zip(told, pieces)]
        self.assertEqual(worths, worths[:1] * len(worths))
        return pieces

    def test_by_hand(self):
        for told, pieces in [
                ([LEFTWARD], [CAKE]),
                ([FLAT, FLAT], [span(0, "1/2"), span("1/2", 1)]),
                # Left of x by FLAT x, right of it by LEFTWARD (1 - x) * 2/3.
                ([FLAT, LEFTWARD], [span(0, "2/5"), span("2/5", 1)]),
                # Left of x by LEFTWARD 1/2 + (x - 1/4) * 2/3, right of it by FLAT 1 - x.
                ([LEFTWARD, FLAT], [span(0, "2/5"), span("2/5", 1)]),
                # Each finds its own side dear: at 1/2, worth 2/3.
                ([LEFTWARD, RIGHTWARD], [span(0, "1/2"), span("1/2", 1)]),
                ([RIGHTWARD, LEFTWARD], [span(0, "1/2"), span("1/2", 1)])]:
            self.assertEqual(self.assert_alike(told), pieces)

    def test_many(self):
        for told in lists_of_steps(COUNTS[Alike], 40, 30):
            self.assert_alike(told)

    def test_pairs_and_threes(self):
        told = reckon.many_steps(24, 31)
        for two in itertools.product(told, repeat=2):
            self.assert_alike(list(two))
        for three in itertools.product(told[:8], repeat=3):
            self.assert_alike(list(three))

    def test_one_taste_for_all(self):
        for steps in reckon.many_steps(20, 32):
            for count in COUNTS[Alike]:
                for piece in self.assert_alike([steps] * count):
                    self.assertEqual(reckon.worth(steps, piece), reckon.Fraction(1, count))


class Together(unittest.TestCase):
    def test_one_taste_object_for_all(self):
        for way, counts in COUNTS.items():
            for count in counts:
                for steps in reckon.many_steps(12, 33):
                    taste = Taste(list(steps))
                    self.assertEqual(way().deal([taste] * count), way().deal(tastes_of([steps] * count)))
                    self.assertEqual(taste.steps(), steps)

    def test_asked_again(self):
        for way, counts in COUNTS.items():
            asked = way()
            for told in lists_of_steps(counts, 5, 34):
                tastes = tastes_of(told)
                pieces = asked.deal(tastes)
                self.assertEqual(asked.deal(tastes), pieces)
                self.assertEqual(way().deal(tastes), pieces)
                self.assertEqual(asked.deal(tastes_of(told)), pieces)

    def test_what_is_changed_changes_nothing(self):
        for way, counts in COUNTS.items():
            asked = way()
            for told in lists_of_steps(counts, 5, 35):
                tastes = tastes_of(told)
                answer = asked.deal(tastes)
                kept = copy.deepcopy(answer)
                for place, piece in enumerate(answer):
                    # The pieces of one answer are lists apart.
                    piece.append(None)
                    self.assertEqual(answer[place + 1:], kept[place + 1:])
                    piece.clear()
                answer.clear()
                answer = asked.deal(tastes)
                self.assertEqual(answer, kept)
                tastes.clear()
                self.assertEqual(answer, kept)
                self.assertEqual(asked.deal(tastes_of(told)), kept)

    def test_each_is_a_way_straight_under_it(self):
        for way in COUNTS:
            self.assertEqual(way.__bases__, (Way,))
            self.assertIsInstance(way(), Way)
            for other in COUNTS:
                self.assertEqual(isinstance(way(), other), way is other)
        self.assertEqual(Way.__bases__, (object,))
        self.assertEqual(set(COUNTS), {ways.Choose, ways.Last, ways.Halves, ways.Three, ways.Even, ways.Alike})


class Refusals(unittest.TestCase):
    def test_what_is_no_list(self):
        taste = Taste(list(FLAT))
        for place, thing in enumerate(no_lists()):
            with self.subTest(place=place):
                for way in COUNTS:
                    assert_refused(self, BadTakers, way().deal, thing)
        for way, counts in COUNTS.items():
            for count in counts:
                many = [taste] * count
                for thing in [tuple(many), iter(many), {taste: taste}, {taste}, dict(enumerate(many)), taste]:
                    assert_refused(self, BadTakers, way().deal, thing)

    def test_another_count(self):
        taste = Taste(list(FLAT))
        for way, counts in COUNTS.items():
            for count in list(range(12)) + [100, 5000]:
                if count not in counts:
                    with self.subTest(way=way, count=count):
                        assert_refused(self, BadTakers, way().deal, [taste] * count)

    def test_what_is_no_taste(self):
        taste = Taste(list(FLAT))
        for place, thing in enumerate(no_tastes()):
            with self.subTest(place=place):
                for way, counts in COUNTS.items():
                    for count in counts:
                        for put in range(count):
                            tastes = [taste] * count
                            tastes[put] = thing
                            assert_refused(self, BadTakers, way().deal, tastes)
                        assert_refused(self, BadTakers, way().deal, [thing] * count)

    def test_way_itself_always(self):
        taste = Taste(list(FLAT))
        for count in range(12):
            assert_refused(self, BadTakers, Way().deal, [taste] * count)
        for thing in no_lists() + no_tastes():
            assert_refused(self, BadTakers, Way().deal, thing)
            assert_refused(self, BadTakers, Way().deal, [thing])

    def test_what_is_refused_is_not_changed(self):
        taste = Taste(list(FLAT))
        for way in COUNTS:
            for tastes in [[], [taste, None], [taste] * 9, [taste, taste, FLAT]]:
                before = list(tastes)
                assert_refused(self, BadTakers, way().deal, tastes)
                self.assertEqual(tastes, before)
        self.assertEqual(taste.steps(), FLAT)
