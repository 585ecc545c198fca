"""The answers that are told of a pair and of a base, and whether they hold."""

from pairbase.figures import ORIGIN, is_row, pair_of, round_of, tells_all
from pairbase.pairs import is_pair


class Answer:
    """What every answer of the package is."""


class Told(Answer):
    """Of a base and a pair: the row that tells the pair."""

    def __init__(self, row):
        self.row = list(row)

    def shows(self, base, pair):
        return is_row(base, self.row) and pair_of(base, self.row) == pair


class Round(Answer):
    """Of a base and a pair: the round that the pair is led to, so that no row tells it."""

    def __init__(self, pairs):
        self.pairs = list(pairs)

    def shows(self, base, pair):
        found = round_of(base, pair)
        return ORIGIN not in found and is_same_round(self.pairs, found)


class All(Answer):
    """Of a base: each pair is told by a row."""

    def shows(self, base):
        return tells_all(base)


class Lost(Answer):
    """Of a base: a pair that is on a round, so that no row tells it."""

    def __init__(self, pair):
        self.pair = pair

    def shows(self, base):
        return is_pair(self.pair) and self.pair != ORIGIN and self.pair in round_of(base, self.pair)


def is_same_round(pairs, found):
    """Whether the pairs are the found ones in their order, begun at any of them."""
    if not isinstance(pairs, list) or len(pairs) != len(found):
        return False
    if not all([is_pair(pair) for pair in pairs]) or pairs[0] not in found:
        return False
    start = found.index(pairs[0])
    return found[start:] + found[:start] == pairs
