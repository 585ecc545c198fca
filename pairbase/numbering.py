"""The number of each pair that is told, and the pair of each number."""

from pairbase.answers import Round
from pairbase.errors import BadNumber, Never
from pairbase.pairs import is_number, size
from pairbase.rows import read, told


def pair_by(base, number):
    """The pair that the row of this number tells."""
    many = size(base)
    if not is_number(number) or number < 0:
        raise BadNumber("no number: a whole number from 0 on")
    row = []
    rest = number
    while rest > 0:
        row.append(rest % many)
        rest = rest // many
    return read(base, row)


def number_of(base, pair):
    """The number of the row that tells the pair."""
    answer = told(base, pair)
    if isinstance(answer, Round):
        raise Never("no row tells the pair")
    many = size(base)
    number = 0
    for figure in reversed(answer.row):
        number = number * many + figure
    return number
