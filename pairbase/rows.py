"""Rows read, and what is told of a pair and of a base."""

from pairbase.answers import All, Lost, Round, Told
from pairbase.errors import BadRow
from pairbase.figures import ORIGIN, is_row, pair_of, round_of, row_of, tells_all
from pairbase.pairs import need_base, need_pair


def read(base, row):
    """The pair that the row tells."""
    need_base(base)
    if not is_row(base, row):
        raise BadRow("no row: a list of the base's figures, the last of them not 0")
    return pair_of(base, row)


def told(base, pair):
    """The row that tells the pair, or the round that it is led to."""
    need_base(base)
    need_pair(pair)
    found = round_of(base, pair)
    if ORIGIN in found:
        return Told(row_of(base, pair))
    return Round(found)


def all_told(base):
    """Whether each pair is told by a row, or else a pair that is on a round."""
    if tells_all(base):
        return All()
    # No row tells (0, 1) here. Where the base's second number is not 1 or -1, each pair that is told has a multiple
    # of it in second place. Where it is, the first is above 0, and (0, 1) is led to (1 - first, second), a pair that
    # is led to itself.
    return Lost(round_of(base, (0, 1))[0])
