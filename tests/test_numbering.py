"""Promise 3: the pair of each number, the number of each pair, and all of it turned about (points 5 and 6)."""

import unittest

from known import FORTY, LARGE_PAIRS, ORIGIN, SMALL_PAIRS, SOME_BASES, slow_read, slow_size, turned
from pairbase.answers import Told
from pairbase.errors import Never
from pairbase.numbering import number_of, pair_by
from pairbase.rows import told

NUMBERS = [FORTY, FORTY - 1, 10 ** 39, 2 ** 130, 1234567890123456789012345678901234567890, 3 ** 80 + 5]


def slow_figures(many, number):
    row = []
    while number:
        number, figure = divmod(number, many)
        row.append(figure)
    return row


class PairBy(unittest.TestCase):
    def test_written_out(self):
        pairs = [(0, 0), (1, 0), (-1, 1), (0, 1), (0, -2), (1, -2), (-1, -1), (0, -1), (2, 2)]
        self.assertEqual([pair_by((-1, 1), number) for number in range(9)], pairs)
        self.assertEqual(number_of((-1, 1), (-1, 0)), 29)
        self.assertEqual(pair_by((2, 3), 27), (5, 6))
        self.assertEqual(number_of((2, 3), (5, 6)), 27)

    def test_number_0(self):
        for base in SOME_BASES:
            self.assertEqual(pair_by(base, 0), ORIGIN)
            self.assertEqual(number_of(base, ORIGIN), 0)
            self.assertIs(type(number_of(base, ORIGIN)), int)

    def test_the_row_of_the_number(self):
        for base in SOME_BASES:
            many = slow_size(base)
            for number in list(range(30)) + [many - 1, many, many + 1, many ** 2 - 1, many ** 2] + NUMBERS:
                pair = pair_by(base, number)
                self.assertIs(type(pair), tuple)
                self.assertEqual(pair, slow_read(base, slow_figures(many, number)))
                self.assertEqual(number_of(base, pair), number)
                self.assertEqual(told(base, pair).row, slow_figures(many, number))

    def test_no_two_numbers_have_one_pair(self):
        for base in SOME_BASES:
            self.assertEqual(len({pair_by(base, number) for number in range(2000)}), 2000)


class NumberOf(unittest.TestCase):
    def test_pairs_and_never(self):
        for base in SOME_BASES:
            for pair in SMALL_PAIRS + LARGE_PAIRS:
                answer = told(base, pair)
                if type(answer) is Told:
                    number = sum(figure * slow_size(base) ** at for at, figure in enumerate(answer.row))
                    self.assertEqual(number_of(base, pair), number)
                    self.assertEqual(pair_by(base, number), pair)
                else:
                    with self.assertRaises(Never) as caught:
                        number_of(base, pair)
                    self.assertIs(type(caught.exception), Never)

    def test_written_out_never(self):
        for base, pair in [((1, 1), (0, 1)), ((-2, 3), (0, 1)), ((-2, 3), (1, 1)), ((2, 1), (-1, 1)), ((2, 1), (-2, 2)),
                           ((30, 1), (-29, 1)), ((2, 3), (-1, 2)), ((3, -4), (-FORTY, 1 - 4 * FORTY))]:
            with self.assertRaises(Never):
                number_of(base, pair)


class TurnedAbout(unittest.TestCase):
    def test_same_row_and_number(self):
        for base in SOME_BASES:
            for number in list(range(25)) + NUMBERS:
                pair = pair_by(base, number)
                self.assertEqual(pair_by(turned(base), number), turned(pair))
                self.assertEqual(number_of(turned(base), turned(pair)), number)
                self.assertEqual(told(turned(base), turned(pair)).row, told(base, pair).row)

    def test_same_kind(self):
        for base in SOME_BASES:
            for pair in SMALL_PAIRS + LARGE_PAIRS:
                self.assertIs(type(told(turned(base), turned(pair))), type(told(base, pair)))


if __name__ == "__main__":
    unittest.main()
