"""Promises 2 and 4: answers made by hand, right ones and wrong ones (points 3 and 4)."""

import unittest

from known import BASES, FORTY, LARGE_PAIRS, ORIGIN, SMALL_PAIRS, SOME_BASES, slow_read, slow_size
from pairbase.answers import All, Lost, Round, Told
from pairbase.rows import all_told, told

LONG_ROUNDS = [(-29, -23), (-27, -29), (-30, -23)]


def exchanged(things):
    """The things with each two of them exchanged."""
    found = []
    for low in range(len(things)):
        for high in range(low + 1, len(things)):
            other = list(things)
            other[low], other[high] = other[high], other[low]
            found.append(other)
    return found


def without_one(things):
    return [things[:at] + things[at + 1:] for at in range(len(things))]


def with_one(things, more):
    return [things[:at] + [one] + things[at:] for one in more for at in range(len(things) + 1)]


def in_place(things, change):
    return [things[:at] + [change(things[at])] + things[at + 1:] for at in range(len(things))]


def begun_elsewhere(things):
    return [things[at:] + things[:at] for at in range(len(things))]


class Shows(unittest.TestCase):
    def holds(self, answer, *asked):
        self.assertIs(answer.shows(*asked), True, (vars(answer), asked))

    def fails(self, answer, *asked):
        self.assertIs(answer.shows(*asked), False, (vars(answer), asked))


class ToldShows(Shows):
    def test_written_out(self):
        self.holds(Told([1, 2]), (2, 3), (5, 6))
        self.holds(Told([1, 0, 1, 1, 1]), (-1, 1), (-1, 0))
        self.holds(Told([]), (-1, 1), ORIGIN)
        self.fails(Told([]), (-1, 1), (1, 0))
        self.fails(Told([0]), (-1, 1), ORIGIN)
        self.fails(Told([1, 2]), (2, 3), (5, -6))
        self.fails(Told([1, 2]), (2, -3), (5, 6))
        self.holds(Told([1, 2]), (2, -3), (5, -6))

    def test_read_right_but_no_row(self):
        self.assertEqual(slow_read((-1, 1), [0, 0, 1, 1]), (2, 0))
        self.fails(Told([2]), (-1, 1), (2, 0))
        self.holds(Told([0, 0, 1, 1]), (-1, 1), (2, 0))
        self.fails(Told([0, 0, 1, 1, 0]), (-1, 1), (2, 0))
        self.fails(Told([-1]), (-1, 1), (-1, 0))
        self.fails(Told([-4, 1]), (2, 1), (-2, 1))
        self.fails(Told([5]), (2, 1), (5, 0))
        self.holds(Told([4]), (2, 1), (4, 0))
        self.fails(Told([FORTY]), (2, 1), (FORTY, 0))

    def test_wrong_rows(self):
        for base in SOME_BASES:
            many = slow_size(base)
            for row in [[1], [0, 1], [many - 1, 1, 0, many - 1], [(5 * at + 1) % many for at in range(9)] + [1]]:
                pair = slow_read(base, row)
                self.holds(Told(row), base, pair)
                wrong = without_one(row) + with_one(row, [0, 1, many, -1]) + exchanged(row)
                wrong = wrong + in_place(row, lambda figure: figure + many)
                wrong = wrong + in_place(row, lambda figure: figure - many)
                wrong = wrong + [row + [0], row + row, row[::-1], []]
                for other in wrong:
                    if other != row:
                        self.fails(Told(other), base, pair)
                self.fails(Told(row), base, (pair[0] + 1, pair[1]))
                self.fails(Told(row), base, (pair[0], pair[1] - 1))

    def test_pairs_on_rounds(self):
        for base in [(1, 1), (2, 1), (-2, 3), (2, 3)]:
            for row in [[], [0], [1], [1, 1], [0, 1, 1]]:
                self.fails(Told(row), base, told(base, (0, 1)).pairs[0])

    def test_large(self):
        for pair in LARGE_PAIRS:
            answer = told((-1, 1), pair)
            self.holds(answer, (-1, 1), pair)
            answer.row[-1] = 0
            self.fails(answer, (-1, 1), pair)

    def test_fields_as_they_stand_then(self):
        row = [1, 2]
        answer = Told(row)
        self.assertIsNot(answer.row, row)
        row.append(3)
        row[0] = 7
        self.assertEqual(answer.row, [1, 2])
        self.holds(answer, (2, 3), (5, 6))
        answer.row.append(0)
        self.fails(answer, (2, 3), (5, 6))
        answer.row = [2]
        self.fails(answer, (2, 3), (5, 6))
        self.holds(answer, (2, 3), (2, 0))
        self.assertEqual(answer.row, [2])


class RoundShows(Shows):
    def test_written_out(self):
        self.holds(Round([(0, 1)]), (1, 1), (0, 1))
        self.holds(Round([(1, 1)]), (-2, 3), (0, 1))
        self.holds(Round([(1, 1)]), (-2, 3), (1, 1))
        self.holds(Round([(0, 1), (-1, 2)]), (2, 3), (0, 1))
        self.holds(Round([(-1, 2), (0, 1)]), (2, 3), (0, 1))
        self.fails(Round([(0, 1), (-1, 2)]), (2, -3), (0, 1))
        self.fails(Round([(0, -1), (1, 2)]), (2, 3), (0, 1))
        self.fails(Round([(0, -1)]), (1, 1), (0, 1))

    def test_other_rounds_of_the_base(self):
        self.holds(Round([(-1, 3)]), (2, 3), (-1, 3))
        self.fails(Round([(-1, 3)]), (2, 3), (0, 1))
        self.fails(Round([(0, 1), (-1, 2)]), (2, 3), (-1, 3))
        self.fails(Round([(-1, 3), (0, 1), (-1, 2)]), (2, 3), (0, 1))
        self.holds(Round([(-2, 2)]), (2, 1), (-2, 2))
        self.fails(Round([(-1, 1)]), (2, 1), (-2, 2))

    def test_pairs_that_are_told(self):
        for base in SOME_BASES:
            for pair in [ORIGIN, (1, 0), slow_read(base, [1, 1, 1])]:
                for pairs in [[ORIGIN], [], [(0, 1)], [pair], told(base, pair).row]:
                    self.fails(Round(pairs), base, pair)

    def test_wrong_rounds(self):
        for base in [(1, 1), (2, 3), (-2, 3), (3, -4), (-30, 29)] + LONG_ROUNDS:
            for pair in [all_told(base).pair, (0, -1), (FORTY, 1 - FORTY)]:
                answer = told(base, pair)
                if type(answer) is Told:
                    continue
                pairs = answer.pairs
                right = begun_elsewhere(pairs)
                for other in right:
                    self.holds(Round(other), base, pair)
                wrong = without_one(pairs) + with_one(pairs, [ORIGIN, pairs[0], pairs[-1], (FORTY, 3)])
                wrong = wrong + exchanged(pairs) + in_place(pairs, lambda one: ORIGIN)
                wrong = wrong + in_place(pairs, lambda one: (one[0], one[1] + 1))
                wrong = wrong + in_place(pairs, lambda one: pairs[0]) + [pairs + pairs, pairs[::-1], []]
                wrong = wrong + [[(one[1], one[0]) for one in pairs], [(one[0], -one[1]) for one in pairs]]
                for other in wrong:
                    if other not in right:
                        self.fails(Round(other), base, pair)

    def test_order(self):
        base = LONG_ROUNDS[0]
        pairs = told(base, all_told(base).pair).pairs
        self.assertEqual(len(pairs), 22)
        self.holds(Round(pairs[5:] + pairs[:5]), base, pairs[11])
        self.fails(Round(pairs[::-1]), base, pairs[11])
        self.fails(Round(sorted(pairs)), base, pairs[11])

    def test_led_in_one_step_and_in_many(self):
        self.holds(Round([(-29, 1)]), (30, 1), (-29 * 30 - 1 + 1, 1))
        for pair in LARGE_PAIRS:
            answer = told((1, 2), pair)
            if type(answer) is Round:
                self.holds(Round(list(answer.pairs)), (1, 2), pair)
                self.fails(Round([pair] + answer.pairs), (1, 2), pair)

    def test_fields_as_they_stand_then(self):
        pairs = [(0, 1), (-1, 2)]
        answer = Round(pairs)
        self.assertIsNot(answer.pairs, pairs)
        pairs.append((5, 5))
        pairs[0] = (7, 7)
        self.assertEqual(answer.pairs, [(0, 1), (-1, 2)])
        self.holds(answer, (2, 3), (0, 1))
        answer.pairs.reverse()
        self.holds(answer, (2, 3), (0, 1))
        answer.pairs.pop()
        self.fails(answer, (2, 3), (0, 1))
        answer.pairs = [(-1, 3)]
        self.holds(answer, (2, 3), (-1, 3))
        self.assertEqual(answer.pairs, [(-1, 3)])


class AllAndLostShow(Shows):
    def test_all_of_every_base(self):
        for base in BASES:
            self.assertIs(All().shows(base), base[0] < 0 and base[1] in (1, -1))

    def test_lost_written_out(self):
        self.holds(Lost((0, 1)), (1, 1))
        self.holds(Lost((1, 1)), (-2, 3))
        self.fails(Lost((0, 1)), (-2, 3))
        self.holds(Lost((0, 1)), (2, 3))
        self.holds(Lost((-1, 2)), (2, 3))
        self.fails(Lost((0, 1)), (2, -3))
        self.fails(Lost((1, 0)), (1, 1))
        self.fails(Lost((0, -1)), (1, 1))
        self.holds(Lost((-29, 1)), (30, 1))
        self.fails(Lost((-29, -1)), (30, 1))

    def test_lost_of_origin_and_where_all_is_told(self):
        for base in SOME_BASES:
            self.fails(Lost(ORIGIN), base)
        for base in [(-1, 1), (-1, -1), (-2, 1), (-30, -1)]:
            for pair in SMALL_PAIRS + LARGE_PAIRS:
                self.fails(Lost(pair), base)

    def test_lost_of_small_and_large_pairs(self):
        for base in SOME_BASES:
            for pair in SMALL_PAIRS + LARGE_PAIRS:
                answer = told(base, pair)
                on_it = type(answer) is Round and pair in answer.pairs
                self.assertIs(Lost(pair).shows(base), on_it)

    def test_every_lost_pair_that_is_told(self):
        for base in BASES:
            self.holds(all_told(base), base)

    def test_every_pair_of_a_round(self):
        for base in LONG_ROUNDS:
            for pair in told(base, all_told(base).pair).pairs:
                self.holds(Lost(pair), base)

    def test_fields_as_they_stand_then(self):
        answer = Lost((1, 1))
        self.holds(answer, (-2, 3))
        answer.pair = (0, 1)
        self.fails(answer, (-2, 3))
        answer.pair = (2, 2)
        self.holds(answer, (-2, 3))
        self.assertEqual(answer.pair, (2, 2))


class WhatIsToldShows(Shows):
    def test_of_pairs(self):
        for base in SOME_BASES:
            for pair in SMALL_PAIRS + LARGE_PAIRS:
                self.holds(told(base, pair), base, pair)


if __name__ == "__main__":
    unittest.main()
