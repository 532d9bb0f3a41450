"""Lines: where they reach a height, and the corners that are put in."""

import unittest

from fairknife.lines import parted, reached

RISING = [((0, 1), (0, 1)), ((1, 4), (1, 2)), ((1, 1), (1, 1))]
HILL = [((0, 1), (1, 4)), ((1, 2), (1, 1)), ((1, 1), (0, 1))]


class Lines(unittest.TestCase):
    def test_reached(self):
        for line, up, told in [
                (RISING, (0, 1), (0, 1)), (RISING, (1, 4), (1, 8)), (RISING, (1, 2), (1, 4)), (RISING, (2, 3), (1, 2)),
                (RISING, (1, 1), (1, 1)), (RISING, (9, 8), None), (HILL, (1, 4), (0, 1)), (HILL, (5, 8), (1, 4)),
                (HILL, (1, 1), (1, 2)), (HILL, (1, 8), (15, 16)), (HILL, (0, 1), (1, 1)), (HILL, (2, 1), None)]:
            self.assertEqual(reached(line, up), told)

    def test_reached_by_a_level_way(self):
        line = [((0, 1), (1, 2)), ((1, 3), (1, 4)), ((2, 3), (1, 4)), ((1, 1), (0, 1))]
        self.assertEqual(reached(line, (1, 4)), (1, 3))
        self.assertEqual(reached(line[1:3], (1, 4)), (1, 3))
        self.assertIsNone(reached(line[1:3], (1, 2)))

    def test_parted(self):
        line = list(RISING)
        self.assertEqual(parted(line, [(0, 1), (1, 4), (1, 2), (2, 3), (5, 6), (1, 1), (2, 1)]),
                         [((0, 1), (0, 1)), ((1, 8), (1, 4)), ((1, 4), (1, 2)), ((1, 2), (2, 3)),
                          ((3, 4), (5, 6)), ((1, 1), (1, 1))])
        self.assertEqual(parted(line, []), RISING)
        self.assertEqual(line, RISING)
        level = [((0, 1), (0, 1)), ((1, 1), (0, 1))]
        self.assertEqual(parted(level, [(0, 1), (1, 1)]), level)
