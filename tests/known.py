"""What the tests know without the program: bases, pairs, and slow ways straight from the words of the document."""

from pairbase.answers import All, Answer, Lost, Round, Told

ORIGIN = (0, 0)
FORTY = 10 ** 40 - 1
HUGE = 10 ** 5000


def divides(number, other):
    return other == 0 if number == 0 else other % number == 0


def slow_is_base(pair):
    first, second = pair
    common = [k for k in range(2, 62) if divides(k, first) and divides(k, second)]
    return not common and max(abs(first), abs(second)) <= 30 and first ** 2 + second ** 2 >= 2


BASES = [(a, b) for a in range(-30, 31) for b in range(-30, 31) if slow_is_base((a, b))]

# Of size 2, at the edges, that tell all and that do not, with long rounds (22 and 28 pairs) among them.
SOME_BASES = [
    (-1, 1), (-1, -1), (1, 1), (1, -1),
    (-2, 1), (-2, -1), (2, 1), (2, -1), (1, 2), (-1, 2), (1, -2), (-1, -2),
    (2, 3), (-2, 3), (3, -4), (-3, 1), (-5, 7), (8, -3),
    (30, 1), (-30, 1), (-30, -1), (1, 30), (-1, -30), (1, -30), (30, 29), (-30, 29), (-30, -29), (29, -30),
    (-29, -23), (-27, -29),
]

SMALL_PAIRS = [(a, b) for a in range(-4, 5) for b in range(-4, 5)]

LARGE_PAIRS = [
    (FORTY, FORTY), (-FORTY, FORTY), (FORTY, -FORTY), (-FORTY, -FORTY), (0, FORTY), (-FORTY, 0),
    (1234567890123456789012345678901234567890, -9876543210987654321098765432109876543210),
    (-3141592653589793238462643383279502884197, 2718281828459045235360287471352662497757),
]


def slow_times(one, other):
    return (one[0] * other[0] - one[1] * other[1], one[0] * other[1] + one[1] * other[0])


def slow_size(base):
    return base[0] ** 2 + base[1] ** 2


def slow_steps(base, pair):
    """All figures with which the pair is the figure and the base times a pair, and that pair."""
    many = slow_size(base)
    found = []
    for figure in range(many):
        first, second = slow_times((pair[0] - figure, pair[1]), (base[0], -base[1]))
        if first % many == 0 and second % many == 0:
            found.append((figure, (first // many, second // many)))
    return found


def slow_step(base, pair):
    found = slow_steps(base, pair)
    assert len(found) == 1
    return found[0]


def slow_read(base, row):
    """The sum of the figures times the powers of the base."""
    first, second, power = 0, 0, (1, 0)
    for figure in row:
        first, second = first + figure * power[0], second + figure * power[1]
        power = slow_times(power, base)
    return (first, second)


def turned(pair):
    return (pair[0], -pair[1])


class Hostile:
    """An object that fails whoever compares it, counts it or writes it out."""

    def __eq__(self, other):
        raise RuntimeError("compared")

    def __hash__(self):
        raise RuntimeError("hashed")

    def __repr__(self):
        raise RuntimeError("written out")

    def __len__(self):
        raise RuntimeError("counted")

    def __bool__(self):
        raise RuntimeError("tested")


class Numberlike:
    """An object that can stand as an index, but is no number."""

    def __index__(self):
        return 3

    def __int__(self):
        return 3


NO_NUMBERS_AT_ALL = [
    True, False, None, "", "3", "ab", b"ab", 1.0, 2.5, float("nan"), 3j, [], [3], {}, {1: 2}, {1, 2}, (), (3,), (3, 1),
    object(), Hostile(), Numberlike(), int, len, Told([1]), Round([(1, 1)]), All(), Lost((1, 1)), Answer(), range(2),
    ValueError("3"),
]

NO_PAIRS = [thing for thing in NO_NUMBERS_AT_ALL if not (isinstance(thing, tuple) and len(thing) == 2)] + [
    0, 1, -1, HUGE, [2, 1], [-1, 1], ["2", "1"], "21", (2, 1, 0), (2, 1, 1), ((2, 1),), ((2, 1), (2, 1)), [(2, 1)],
    {2: 1, 1: 2}, {2, 1}, range(1, 3), iter((2, 1)), b"\x02\x01",
    (2, True), (True, 2), (False, 1), (2, False), (True, True), (2, None), (None, 1), (2.0, 1), (2, 1.0), ("2", 1),
    (2, "1"), (2, [1]), ([2], 1), (2, (1,)), (2, 1j), (object(), 1), (2, Hostile()), (Hostile(), 2),
    (2, Numberlike()),
]

NO_BASES = NO_PAIRS + [
    (0, 0), (0, 1), (0, -1), (1, 0), (-1, 0), (2, 0), (0, 2), (-2, 0), (0, -30), (30, 0), (31, 0), (0, 31),
    (31, 1), (-31, 1), (1, 31), (1, -31), (31, 30), (30, 31), (-31, -30), (30, -31), (32, 31), (HUGE, 1), (1, -HUGE),
    (2, 2), (-2, 2), (2, 4), (-3, 6), (15, 25), (30, 30), (30, -30), (-30, 28), (29, 29), (-29, 29), (26, -13),
]

NO_COUNTS = NO_NUMBERS_AT_ALL + [-1, -2, -FORTY, -HUGE]
