"""What both answers and rows ask of figures: it stands apart as neither may import the other."""

from pairbase.pairs import is_number, need_base, size, step, times

ORIGIN = (0, 0)


def is_row(base, thing):
    many = size(base)
    if not isinstance(thing, list):
        return False
    return all([is_number(figure) and 0 <= figure < many for figure in thing]) and thing[-1:] != [0]


def pair_of(base, row):
    """The pair that a row of the base's figures tells."""
    first, second = ORIGIN
    for figure in reversed(row):
        first, second = times(base, (first, second))
        first = first + figure
    return (first, second)


def row_of(base, pair):
    """The row that tells a pair that is led to (0, 0)."""
    row = []
    rest = pair
    while rest != ORIGIN:
        figure, rest = step(base, rest)
        row.append(figure)
    return row


def round_of(base, pair):
    """The pairs among which the pair is led on and on: (0, 0) alone just where a row tells it."""
    seen = set()
    here = pair
    while here not in seen:
        seen.add(here)
        _, here = step(base, here)
    return round_from(base, here)


def round_from(base, start):
    """The pairs of the round that the start is on, in the order in which they are led on."""
    found = [start]
    _, here = step(base, start)
    while here != start:
        found.append(here)
        _, here = step(base, here)
    return found


def tells_all(base):
    need_base(base)
    return base[0] < 0 and abs(base[1]) == 1
