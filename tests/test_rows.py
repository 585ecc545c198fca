"""Promises 1 and 2: rows read, pairs told, bases that tell all and others (points 2, 3 and 4)."""

import unittest

from known import BASES, FORTY, LARGE_PAIRS, ORIGIN, SMALL_PAIRS, SOME_BASES
from known import slow_read, slow_size, slow_step, slow_times
from pairbase.answers import All, Lost, Round, Told
from pairbase.rows import all_told, read, told


class Read(unittest.TestCase):
    def test_written_out(self):
        self.assertEqual(read((2, 3), [1, 2]), (5, 6))
        self.assertEqual(read((-1, 1), [1, 0, 1, 1, 1]), (-1, 0))
        self.assertEqual(read((-1, 1), [0, 1]), (-1, 1))
        self.assertEqual(read((-2, 1), [1, 1, 2, 1]), (3, 4))
        self.assertEqual(read((30, 29), [1740]), (1740, 0))

    def test_empty_row(self):
        for base in SOME_BASES:
            self.assertEqual(read(base, []), ORIGIN)

    def test_every_short_row(self):
        for base in [(-1, 1), (1, 1), (2, -1), (-2, -1)]:
            rows = [[]]
            for _ in range(4):
                rows = rows + [[figure] + row for row in rows for figure in range(slow_size(base))]
            seen = {}
            for row in rows:
                if row[-1:] != [0]:
                    pair = read(base, row)
                    self.assertEqual(pair, slow_read(base, row))
                    self.assertEqual(seen.setdefault(pair, row), row)
                    self.assertEqual(told(base, pair).row, row)

    def test_long_rows(self):
        for base in SOME_BASES:
            most = slow_size(base) - 1
            row = [(at * at + at // 3) % (most + 1) for at in range(300)] + [most]
            self.assertEqual(read(base, row), slow_read(base, row))
            self.assertEqual(told(base, slow_read(base, row)).row, row)

    def test_row_is_left_and_may_be_changed(self):
        row = [1, 0, 1]
        first = read((-1, 1), row)
        self.assertEqual(row, [1, 0, 1])
        row.append(1)
        self.assertEqual(read((-1, 1), row), slow_read((-1, 1), [1, 0, 1, 1]))
        self.assertEqual(first, slow_read((-1, 1), [1, 0, 1]))
        self.assertIs(type(first), tuple)


class ToldOfPairs(unittest.TestCase):
    def check(self, base, pair):
        answer = told(base, pair)
        if type(answer) is Told:
            self.check_row(base, pair, answer.row)
        else:
            self.assertIs(type(answer), Round)
            self.check_round(base, pair, answer.pairs)
        return answer

    def check_row(self, base, pair, row):
        self.assertIs(type(row), list)
        for figure in row:
            self.assertIs(type(figure), int)
            self.assertTrue(0 <= figure < slow_size(base))
        self.assertNotEqual(row[-1:], [0])
        self.assertEqual(slow_read(base, row), pair)

    def check_round(self, base, pair, pairs):
        self.assertIs(type(pairs), list)
        self.assertTrue(pairs)
        self.assertNotIn(ORIGIN, pairs)
        self.assertEqual(len(set(pairs)), len(pairs))
        for at, one in enumerate(pairs):
            self.assertIs(type(one), tuple)
            self.assertEqual(slow_step(base, one)[1], pairs[(at + 1) % len(pairs)])
        seen = []
        while pair not in seen and pair not in pairs:
            seen.append(pair)
            pair = slow_step(base, pair)[1]
        self.assertIn(pair, pairs)

    def test_written_out_rows(self):
        self.assertEqual(told((2, 3), (5, 6)).row, [1, 2])
        self.assertEqual(told((-1, 1), (-1, 0)).row, [1, 0, 1, 1, 1])
        self.assertEqual(told((-2, 1), (3, 4)).row, [1, 1, 2, 1])
        self.assertEqual(told((1, 1), (10, 7)).row, [1, 1, 1, 0, 1, 1, 1, 0, 0, 1])

    def test_origin_has_the_empty_row(self):
        for base in SOME_BASES:
            answer = told(base, ORIGIN)
            self.assertIs(type(answer), Told)
            self.assertEqual(answer.row, [])

    def test_written_out_rounds(self):
        self.assertEqual(told((1, 1), (0, 1)).pairs, [(0, 1)])
        self.assertEqual(told((-2, 3), (0, 1)).pairs, [(1, 1)])
        self.assertEqual(set(told((2, 3), (0, 1)).pairs), {(0, 1), (-1, 2)})

    def test_on_a_round_led_in_one_step_and_in_many(self):
        for base in [(-2, 3), (2, 3), (-29, -23)]:
            pairs = self.check(base, (0, 1)).pairs
            for pair in pairs:
                self.assertEqual(set(self.check(base, pair).pairs), set(pairs))
            far = pairs[0]
            for _ in range(30):
                far = slow_times(base, far)
                far = (far[0] + 1, far[1])
            self.assertEqual(set(self.check(base, far).pairs), set(pairs))
        self.assertEqual(slow_step((-2, 3), (0, 1))[1], (1, 1))

    def test_small_pairs(self):
        for base in [base for base in SOME_BASES if slow_size(base) < 100]:
            kinds = {type(self.check(base, pair)) for pair in SMALL_PAIRS}
            self.assertEqual(kinds, {Told} if base[0] < 0 and abs(base[1]) == 1 else {Told, Round})

    def test_large_pairs(self):
        for base in SOME_BASES:
            for pair in LARGE_PAIRS[:2] if slow_size(base) > 100 else LARGE_PAIRS:
                self.check(base, pair)

    def test_rows_of_large_pairs(self):
        for base in SOME_BASES:
            figures = [(7 * at + 3) % slow_size(base) for at in range(26)] + [1]
            answer = told(base, slow_read(base, figures))
            self.assertIs(type(answer), Told)
            self.assertEqual(answer.row, figures)

    def test_beyond_forty_figures(self):
        for base in [(-1, 1), (-30, 1)]:
            self.check_row(base, (7 ** 900, -FORTY), told(base, (7 ** 900, -FORTY)).row)

    def test_new_at_each_call(self):
        one, other = told((2, 3), (5, 6)), told((2, 3), (5, 6))
        self.assertIsNot(one, other)
        self.assertIsNot(one.row, other.row)
        one.row.append(9)
        self.assertEqual(other.row, [1, 2])
        self.assertEqual(told((2, 3), (5, 6)).row, [1, 2])
        one, other = told((2, 3), (0, 1)), told((2, 3), (0, 1))
        self.assertIsNot(one.pairs, other.pairs)
        one.pairs.clear()
        self.assertEqual(len(other.pairs), 2)
        self.assertEqual(len(told((2, 3), (0, 1)).pairs), 2)

    def test_what_is_told_is_not_what_was_handed_in(self):
        class Named(tuple):
            pass

        for pair in told((2, 3), Named((0, 1))).pairs:
            self.assertIs(type(pair), tuple)


class AllTold(unittest.TestCase):
    def test_written_out(self):
        for base in [(-1, 1), (-1, -1), (-2, 1), (-2, -1), (-30, 1), (-30, -1)]:
            self.assertIs(type(all_told(base)), All)
        for base in [(1, 1), (1, -1), (2, 1), (30, -1), (-1, 2), (1, -2), (-2, 3), (-30, 29)]:
            self.assertIs(type(all_told(base)), Lost)

    def test_every_base(self):
        for base in BASES:
            answer = all_told(base)
            if base[0] < 0 and base[1] in (1, -1):
                self.assertIs(type(answer), All)
            else:
                self.assertIs(type(answer), Lost)
                self.check_on_a_round(base, answer.pair)

    def check_on_a_round(self, base, start):
        self.assertIs(type(start), tuple)
        self.assertNotEqual(start, ORIGIN)
        pair, steps = slow_step(base, start)[1], 1
        while pair != start:
            self.assertLess(steps, 100)
            pair, steps = slow_step(base, pair)[1], steps + 1

    def test_new_at_each_call(self):
        self.assertIsNot(all_told((-1, 1)), all_told((-1, 1)))
        one = all_told((2, 3))
        one.pair = (7, 7)
        self.assertIn(all_told((2, 3)).pair, [(0, 1), (-1, 2), (-1, 3)])


if __name__ == "__main__":
    unittest.main()
