"""Threes by the powers of three differences of products."""

from turncouple.errors import NoPlace, TooWide
from turncouple.numbers import exact, root_of_factorials, times
from turncouple.turns import can_join, need_pairs
from turncouple.whole import binomials, is_odd, is_whole

HIGHEST_POWER = 12


def powers(p, q, r):
    """A dict from the powers of x1, y1, x2, y2, x3, y3 to the whole numbers that stand there, but 0."""
    for power in (p, q, r):
        if not is_whole(power) or not 0 <= power <= HIGHEST_POWER:
            raise NoPlace("a power is a whole number from 0 to 12")
    found = {}
    for i, first in enumerate(signed_binomials(p)):
        for j, second in enumerate(signed_binomials(q)):
            for k, third in enumerate(signed_binomials(r)):
                # i, j, k say how often the second product of each difference is taken.
                place = (p - i + k, i + r - k, i + q - j, p - i + j, j + r - k, q - j + k)
                found[place] = found.get(place, 0) + first * second * third
    return {place: number for place, number in found.items() if number != 0}


def three_by_powers(one, other, third):
    """The three of three pairs, found by powers."""
    need_pairs([one, other, third])
    (a, u), (b, v), (c, w) = one, other, third
    if not can_join(a, b, c) or u + v + w != 0:
        return exact(0)
    p, q, r = (a + b - c) // 2, (b + c - a) // 2, (c + a - b) // 2
    if max(p, q, r) > HIGHEST_POWER:
        raise TooWide("a three is told by powers to 12")
    place = ((a + u) // 2, (a - u) // 2, (b + v) // 2, (b - v) // 2, (c + w) // 2, (c - w) // 2)
    root = root_of_factorials(place, ((a + b + c) // 2 + 1, p, q, r))
    return times(root, exact(powers(p, q, r).get(place, 0)))


def signed_binomials(power):
    """The numbers in a difference to a power, by how often what is taken away is taken."""
    return [-number if is_odd(at) else number for at, number in enumerate(binomials(power))]
