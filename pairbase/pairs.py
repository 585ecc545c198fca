"""Pairs and bases: products, sizes, and the one step from a pair to the next."""

from math import gcd

from pairbase.errors import BadBase, BadPair

LIMIT = 30
LEAST_SIZE = 2


def is_number(thing):
    return isinstance(thing, int) and not isinstance(thing, bool)


def is_pair(thing):
    return isinstance(thing, tuple) and len(thing) == 2 and is_number(thing[0]) and is_number(thing[1])


def is_base(thing):
    if not is_pair(thing):
        return False
    first, second = thing
    if abs(first) > LIMIT or abs(second) > LIMIT:
        return False
    return gcd(first, second) == 1 and squares(thing) >= LEAST_SIZE


# The refusals name no worth that was handed in: writing it out could itself fail.
def need_base(thing):
    if not is_base(thing):
        raise BadBase("no base: a tuple of two numbers from -30 to 30, without common divisor, of size 2 or more")


def need_pair(thing):
    if not is_pair(thing):
        raise BadPair("no pair: a tuple of two whole numbers")


def squares(pair):
    first, second = pair
    return first * first + second * second


def times(one, other):
    """The product of two pairs."""
    need_pair(one)
    need_pair(other)
    a, b = one
    c, d = other
    return (a * c - b * d, a * d + b * c)


def size(base):
    """The sum of the squares of the base's numbers: how many figures it has."""
    need_base(base)
    return squares(base)


def step(base, pair):
    """The pair's figure and the pair that it is led to."""
    need_base(base)
    need_pair(pair)
    many = squares(base)
    figure = (pair[0] + pair[1] * like_second_unit(base)) % many
    # The base times itself turned about is (size, 0), so this product is size times the wanted pair.
    turned = (base[0], -base[1])
    first, second = times((pair[0] - figure, pair[1]), turned)
    return figure, (first // many, second // many)


def like_second_unit(base):
    """A number that, in first place, differs from (0, 1) by the base times a pair."""
    # The base's numbers have no common divisor, so the first of them has none with the size either.
    return base[1] * inverse(base[0], squares(base))


def inverse(number, many):
    """What times the number leaves 1 over many, which has no common divisor with the number."""
    larger, smaller = number % many, many
    found, other = 1, 0
    while smaller > 0:
        quotient = larger // smaller
        larger, smaller = smaller, larger - quotient * smaller
        found, other = other, found - quotient * other
    return found
