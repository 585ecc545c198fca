"""Promise 5: refusals, their classes and their order (point 1 and the interface)."""

import unittest

from known import BASES, FORTY, HUGE, NO_BASES, NO_COUNTS, NO_NUMBERS_AT_ALL, NO_PAIRS, slow_is_base, slow_size
from pairbase.errors import BadBase, BadNumber, BadPair, BadRow, BaseError, Never
from pairbase.numbering import number_of, pair_by
from pairbase.pairs import size, step, times
from pairbase.rows import all_told, read, told

NO_ROWS = [thing for thing in NO_NUMBERS_AT_ALL if not isinstance(thing, list)]
NO_ROWS = NO_ROWS + [0, 1, HUGE, (1,), (1, 2), "12", range(1, 3), {1: 1}, iter([1]), [[1]], [(1,)], [(1, 2)]]

# None of these is a figure of any base.
BAD_FIGURES = NO_NUMBERS_AT_ALL + ["1", b"1", [1], (1,), -1, -FORTY, FORTY, HUGE, -HUGE]


class Refusals(unittest.TestCase):
    def refused(self, kind, call, *handed):
        with self.assertRaises(BaseError) as caught:
            call(*handed)
        self.assertIs(type(caught.exception), kind)


class Classes(unittest.TestCase):
    def test_straight_under(self):
        self.assertEqual(BaseError.__bases__, (ValueError,))
        for kind in [BadBase, BadPair, BadRow, BadNumber, Never]:
            self.assertEqual(kind.__bases__, (BaseError,))


class Bases(Refusals):
    def test_no_base_at_each_function(self):
        for thing in NO_BASES:
            self.refused(BadBase, size, thing)
            self.refused(BadBase, all_told, thing)
            self.refused(BadBase, step, thing, (1, 1))
            self.refused(BadBase, told, thing, (1, 1))
            self.refused(BadBase, read, thing, [1])
            self.refused(BadBase, read, thing, [])
            self.refused(BadBase, pair_by, thing, 1)
            self.refused(BadBase, number_of, thing, (1, 1))
            self.refused(BadBase, number_of, thing, (0, 0))

    def test_bases_first(self):
        for thing in NO_BASES:
            for other in [None, "x", True, (1, True), [1, True], -1]:
                self.refused(BadBase, step, thing, other)
                self.refused(BadBase, told, thing, other)
                self.refused(BadBase, read, thing, other)
                self.refused(BadBase, pair_by, thing, other)
                self.refused(BadBase, number_of, thing, other)

    def test_each_pair_up_to_33(self):
        for first in range(-33, 34):
            for second in range(-33, 34):
                base = (first, second)
                if slow_is_base(base):
                    self.assertEqual(size(base), slow_size(base))
                else:
                    self.refused(BadBase, size, base)
                    self.refused(BadBase, told, base, (1, 0))

    def test_just_within(self):
        for base in [(30, 29), (-30, 29), (30, -29), (-30, -29), (29, 30), (-29, -30), (30, 1), (-1, 30), (1, -30),
                     (1, 1), (-1, 1), (1, -1), (-1, -1), (1, 2), (30, -7), (-13, 30)]:
            self.assertIn(base, BASES)
            self.assertEqual(size(base), slow_size(base))
            self.assertEqual(told(base, (1, 0)).row, [1])
            self.assertEqual(read(base, [1]), (1, 0))
            self.assertEqual(pair_by(base, 1), (1, 0))
            self.assertEqual(number_of(base, (1, 0)), 1)
            all_told(base)


class Pairs(Refusals):
    def test_no_pair_at_each_function(self):
        for thing in NO_PAIRS:
            self.refused(BadPair, times, thing, (1, 1))
            self.refused(BadPair, times, (1, 1), thing)
            self.refused(BadPair, times, thing, thing)
            for base in [(-1, 1), (2, 3)]:
                self.refused(BadPair, step, base, thing)
                self.refused(BadPair, told, base, thing)
                self.refused(BadPair, number_of, base, thing)

    def test_pairs_that_are_no_bases_are_not_refused(self):
        for pair in [(0, 0), (31, 31), (0, 1), (HUGE, 0)]:
            self.assertEqual(times(pair, (1, 0)), pair)
            self.assertEqual(len(step((2, 1), pair)), 2)


class Rows(Refusals):
    def test_no_list(self):
        for thing in NO_ROWS:
            for base in [(-1, 1), (30, 29)]:
                self.refused(BadRow, read, base, thing)

    def test_no_figures(self):
        for base in [(-1, 1), (1, 1), (2, 3), (30, 29)]:
            for figure in BAD_FIGURES + [slow_size(base), slow_size(base) + 1]:
                self.refused(BadRow, read, base, [figure])
                self.refused(BadRow, read, base, [1, figure])
                self.refused(BadRow, read, base, [figure, 1])
                self.refused(BadRow, read, base, [0, figure, 0, 1])

    def test_a_0_behind(self):
        for base in BASES[::50]:
            for row in [[0], [0, 0], [1, 0], [0, 1, 0], [1] * 50 + [0]]:
                self.refused(BadRow, read, base, row)

    def test_just_within(self):
        for base in BASES[::50]:
            most = slow_size(base) - 1
            self.assertEqual(read(base, [most]), (most, 0))
            self.assertEqual(read(base, [0, 1]), base)
            self.assertEqual(read(base, []), (0, 0))

    def test_nothing_changed(self):
        row = [1, True, 0]
        self.refused(BadRow, read, (2, 3), row)
        self.assertEqual(row, [1, True, 0])


class Numbers(Refusals):
    def test_no_number(self):
        for thing in NO_COUNTS:
            for base in [(-1, 1), (30, 29)]:
                self.refused(BadNumber, pair_by, base, thing)

    def test_just_within(self):
        self.assertEqual(pair_by((2, 3), 0), (0, 0))


class NeverTold(Refusals):
    def test_never(self):
        self.refused(Never, number_of, (1, 1), (0, 1))
        self.refused(Never, number_of, (2, 1), (-1, 1))
        self.refused(BadPair, number_of, (1, 1), [0, 1])


if __name__ == "__main__":
    unittest.main()
