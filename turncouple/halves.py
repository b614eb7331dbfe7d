"""Standings turned, by the halves of a turning."""

from turncouple.errors import NoHalf, NoName, NoOffset
from turncouple.numbers import add_at, all_over, exact, root_of_factorials, times, whole_times
from turncouple.standings import Standing, need_standing
from turncouple.turns import is_offset, need_sizes, offsets
from turncouple.whole import binomials, in_lowest, is_odd, is_whole

# The least number of sixty-one figures.
TOO_LONG = 10 ** 60


def turned(size, u, v, half):
    """The number by which a size at offset v, turned by a half, stands at offset u."""
    need_sizes([size])
    for offset in (u, v):
        if not is_offset(offset, size):
            raise NoOffset("an offset of a size t is one of -t, -t + 2, .., t")
    need_half(half)
    return turned_number(size, u, v, half)


def both_halves(one, other):
    """The half by which is turned what is turned by two halves."""
    need_half(one)
    need_half(other)
    (x, bottom), (y, same) = one
    (z, below), (w, alike) = other
    return in_lowest(x * z - y * w, bottom * below), in_lowest(y * z + x * w, bottom * below)


def back_half(half):
    """The half that turns back."""
    need_half(half)
    (x, bottom), (y, same) = half
    return (x, bottom), (-y, same)


def turned_standing(standing, names, half):
    """A standing whose turns of some names are turned by a half."""
    need_standing(standing)
    need_names(standing, names)
    need_half(half)
    numbers, bottom = whole_times(standing.known)
    for at, (name, size) in enumerate(standing.order):
        if name in names:
            factors, below = whole_times(table_of(size, half))
            numbers = numbers_turned(numbers, at, size, factors)
            bottom *= below
    return Standing(standing.order, all_over(numbers, bottom))


def is_half(thing):
    """Whether it is a half."""
    if not isinstance(thing, tuple) or len(thing) != 2:
        return False
    if not is_fraction(thing[0]) or not is_fraction(thing[1]):
        return False
    (x, bottom), (y, same) = thing
    # In lowest terms fractions whose squares come to 1 have one bottom.
    return bottom == same and x * x + y * y == bottom * bottom


def is_fraction(thing):
    """Whether it is a tuple (top, bottom) in lowest terms, of at most sixty figures each."""
    if not isinstance(thing, tuple) or len(thing) != 2:
        return False
    top, bottom = thing
    if not is_whole(top) or not is_whole(bottom) or abs(top) >= TOO_LONG or not 1 <= bottom < TOO_LONG:
        return False
    return in_lowest(top, bottom) == thing


def need_half(thing):
    """Refuse what is no half."""
    if not is_half(thing):
        raise NoHalf("a half is a tuple of two fractions whose squares come to 1")


def need_names(standing, names):
    """Refuse what is no list of unlike names of a standing."""
    if not isinstance(names, list):
        raise NoName(names)
    own = [name for name, size in standing.order]
    for at, name in enumerate(names):
        if name not in own or name in names[:at]:
            raise NoName(name)


def powers_to(number, high):
    """The list of the powers of a number from 0 to the highest."""
    found = [1]
    for power in range(high):
        found.append(found[-1] * number)
    return found


def turned_number(size, u, v, half):
    """The number of turned, of what is known to be a size, its offsets and a half."""
    (x, bottom), (y, same) = half
    low, high = (size - v) // 2, (size + v) // 2
    apart = (u - v) // 2
    of_c, of_s = powers_to(x, size), powers_to(y, size)
    # With the factorials of v taken into the sum its terms are whole; in the root these then stand below.
    chosen, others = binomials(high), binomials(low)
    whole = 0
    for k in range(max(0, -apart), min(high, (size - u) // 2) + 1):
        term = chosen[k] * others[apart + k] * of_c[size - apart - 2 * k] * of_s[apart + 2 * k]
        whole += -term if is_odd(apart + k) else term
    root = root_of_factorials([(size + u) // 2, (size - u) // 2], [high, low])
    return times(root, exact(whole, bottom=powers_to(bottom, size)[size]))


def table_of(size, half):
    """A dict from (u, v) to all numbers of turned of a size."""
    return {(u, v): turned_number(size, u, v, half) for u in offsets(size) for v in offsets(size)}


def numbers_turned(numbers, at, size, factors):
    """The numbers of a standing behind the turning of the turn at a place, by the factors of its (u, v)."""
    found = {}
    for places, number in numbers.items():
        for u in offsets(size):
            factor = factors[(u, places[at])]
            if factor.parts != ():
                add_at(found, places[:at] + (u,) + places[at + 1:], times(number, factor))
    return found
