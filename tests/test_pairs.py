"""Promise 1: products, sizes and steps (points 1 and 3)."""

import unittest

from known import BASES, LARGE_PAIRS, ORIGIN, SMALL_PAIRS, SOME_BASES, slow_size, slow_steps, slow_times
from pairbase.pairs import size, step, times


class Times(unittest.TestCase):
    def test_written_out(self):
        self.assertEqual(times((1, 2), (3, 4)), (-5, 10))
        self.assertEqual(times((0, 1), (0, 1)), (-1, 0))
        self.assertEqual(times((-1, 1), (-1, 1)), (0, -2))
        self.assertEqual(times((5, -7), (1, 0)), (5, -7))
        self.assertEqual(times((5, -7), (0, 0)), (0, 0))
        self.assertEqual(times((2, 0), (0, 3)), (0, 6))

    def test_pairs_of_any_size(self):
        for one in SMALL_PAIRS + LARGE_PAIRS:
            for other in LARGE_PAIRS + [(2, 1), (0, -1), ORIGIN]:
                self.assertEqual(times(one, other), slow_times(one, other))

    def test_pairs_that_are_no_bases(self):
        self.assertEqual(times((31, 0), (2, 2)), (62, 62))


class Size(unittest.TestCase):
    def test_written_out(self):
        self.assertEqual(size((1, 1)), 2)
        self.assertEqual(size((-1, 1)), 2)
        self.assertEqual(size((2, -3)), 13)
        self.assertEqual(size((30, -29)), 1741)
        self.assertEqual(size((-30, 1)), 901)

    def test_every_base(self):
        self.assertEqual(len(BASES), 2220)
        for base in BASES:
            self.assertEqual(size(base), slow_size(base))


class Step(unittest.TestCase):
    def test_written_out(self):
        self.assertEqual(step((-2, 3), (0, 1)), (5, (1, 1)))
        self.assertEqual(step((-2, 3), (1, 1)), (6, (1, 1)))
        self.assertEqual(step((-1, 1), (-1, 0)), (1, (1, 1)))
        self.assertEqual(step((2, 3), (5, 6)), (1, (2, 0)))
        self.assertEqual(step((2, 3), (2, 0)), (2, (0, 0)))
        self.assertEqual(step((2, 3), (2, 3)), (0, (1, 0)))
        self.assertEqual(step((1, 1), (0, 1)), (1, (0, 1)))

    def test_origin_is_led_to_itself(self):
        for base in SOME_BASES:
            self.assertEqual(step(base, ORIGIN), (0, ORIGIN))

    def test_the_only_figure(self):
        for base in SOME_BASES:
            for pair in [(0, 1), (1, 0), (-3, 2), (4, -1), (-1, -1)] + LARGE_PAIRS[:3]:
                self.assertEqual([step(base, pair)], slow_steps(base, pair))

    def test_every_base(self):
        for base in BASES:
            for pair in [(0, 1), (-1, 0), (17, -40), LARGE_PAIRS[6]]:
                figure, rest = step(base, pair)
                self.assertTrue(0 <= figure < slow_size(base))
                back = slow_times(base, rest)
                self.assertEqual((back[0] + figure, back[1]), pair)

    def test_kinds(self):
        for told in [times((1, 2), (3, 4)), step((2, 1), (3, 4)), step((2, 1), (3, 4))[1]]:
            self.assertIs(type(told), tuple)
            self.assertEqual(len(told), 2)
        self.assertIs(type(size((2, 1))), int)
        self.assertIs(type(step((2, 1), (3, 4))[0]), int)


if __name__ == "__main__":
    unittest.main()
