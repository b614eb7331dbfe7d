"""Turns, told by size and offset, and two of them joined."""

from turncouple.errors import NoOffset, NoSize, TooWide
from turncouple.numbers import exact, over, plus, root_of, root_of_factorials, times
from turncouple.whole import factorials, is_odd, is_whole

HIGHEST_SIZE = 40
HIGHEST_OF_TABLE = 12


def offsets(size):
    """The rising list of the offsets of a size."""
    need_sizes([size])
    return list(range(-size, size + 1, 2))


def may_join(one, other, third):
    """Whether three sizes may be joined."""
    need_sizes([one, other, third])
    return can_join(one, other, third)


def sizes_of(one, other):
    """The rising list of the sizes to which two join."""
    need_sizes([one, other])
    return list(range(abs(one - other), min(one + other, HIGHEST_SIZE) + 1, 2))


def joined(one, other, *, to):
    """The number by which the product of two pairs (size, offset) stands in the third."""
    need_pairs([one, other, to])
    return joined_number(one, other, to)


def ladder(one, other, *, to):
    """The same number as joined tells, found by steps up and down."""
    need_pairs([one, other, to])
    (a, u), (b, v), (c, w) = one, other, to
    if not can_join(a, b, c) or u + v != w:
        return exact(0)
    numbers = numbers_at_top(a, b, c)
    for at in range(c, w, -2):
        # Each step needs but the number itself and its neighbour, so few are on the way to this one.
        numbers = numbers_below(numbers, (a, b, c), at, (u, u + at - 2 - w))
    return numbers[u]


def table(one, other):
    """A dict from ((c, w), (u, v)) to all numbers of two sizes joined that are not 0."""
    need_sizes([one, other])
    if one > HIGHEST_OF_TABLE or other > HIGHEST_OF_TABLE:
        raise TooWide("a table is told of sizes to 12")
    found = {}
    for c in sizes_of(one, other):
        for w in offsets(c):
            for u in offsets(one):
                v = w - u
                if is_offset(v, other):
                    number = joined_number((one, u), (other, v), (c, w))
                    if number.parts != ():
                        found[((c, w), (u, v))] = number
    return found


def is_size(thing):
    """Whether it is a size."""
    return is_whole(thing) and 0 <= thing <= HIGHEST_SIZE


def is_offset(thing, size):
    """Whether it is an offset of a size."""
    return is_whole(thing) and -size <= thing <= size and not is_odd(size - thing)


def need_sizes(things):
    """Refuse what is no size."""
    for thing in things:
        if not is_size(thing):
            raise NoSize("a size is a whole number from 0 to 40")


def need_pairs(things):
    """Refuse what is no pair of a size and its offset; sizes go ahead."""
    for thing in things:
        if not isinstance(thing, tuple) or len(thing) != 2:
            raise NoSize("a pair is a tuple (size, offset)")
        need_sizes([thing[0]])
    for size, offset in things:
        if not is_offset(offset, size):
            raise NoOffset("an offset of a size t is one of -t, -t + 2, .., t")


def can_join(one, other, third):
    """Whether three numbers, known to be sizes, may be joined."""
    if is_odd(one + other + third):
        return False
    return one <= other + third and other <= one + third and third <= one + other


def joined_number(one, other, to):
    """The number of joined, of what is known to be pairs."""
    (a, u), (b, v), (c, w) = one, other, to
    if not can_join(a, b, c) or u + v != w:
        return exact(0)
    reaches = [(a + b - c) // 2, (a - b + c) // 2, (b - a + c) // 2]
    heights = [(a + u) // 2, (a - u) // 2, (b + v) // 2, (b - v) // 2, (c + w) // 2, (c - w) // 2]
    # Each term is a whole number over the product of the factorials of the reaches. In the root this product
    # stands above, and its root over itself is 1 over its root: so it stands below there in place of above.
    known = factorials(max(reaches))
    common = known[reaches[0]] * known[reaches[1]] * known[reaches[2]]
    whole = sum([top * (common // bottom) for top, bottom in terms_of_joined(one, other, c)])
    # (c + 1)! over c! is the factor c + 1.
    root = root_of_factorials([c + 1, *heights], [c, (a + b + c) // 2 + 1, *reaches])
    return times(root, exact(whole))


def terms_of_joined(one, other, c):
    """The terms of the sum in a joined number, k by k, as fractions (top, bottom), of sizes that may be joined."""
    (a, u), (b, v) = one, other
    falling = [(a + b - c) // 2, (a - u) // 2, (b + v) // 2]
    rising = [0, (c - b + u) // 2, (c - a - v) // 2]
    known = factorials((a + b + c) // 2)
    terms = []
    for k in range(-min(rising), min(falling) + 1):
        bottom = 1
        for number in falling:
            bottom *= known[number - k]
        for number in rising:
            bottom *= known[number + k]
        terms.append((-1 if is_odd(k) else 1, bottom))
    return terms


def numbers_at_top(a, b, c):
    """A dict from u to the number of (a, u), (b, c - u) joined to (c, c), all found from a neighbour."""
    number = exact(1)
    numbers, squares = {a: number}, number
    for u in range(a, max(-a, c - b), -2):
        v = c + 2 - u
        ahead = times(number, exact(-1, root=(b - v + 2) * (b + v)))
        number = over(ahead, exact(1, root=(a - u + 2) * (a + u)))
        numbers[u - 2] = number
        squares = plus(squares, times(number, number))
    # The root of the whole quotient, as the roots of some lengths have too many primes to stand below.
    factor = root_of(over(exact(1), squares))
    return {u: times(number, factor) for u, number in numbers.items()}


def numbers_below(numbers, sizes, w, reach):
    """A dict from each u within reach to its number at w - 2, by that of the numbers at w."""
    a, b, c = sizes
    lowest, highest = reach
    part = (c + w) * (c - w + 2)
    found = {}
    for u in range(max(lowest, -a, w - 2 - b), min(highest, a, w - 2 + b) + 1, 2):
        v = w - 2 - u
        total = exact(0)
        if u < a:
            total = plus(total, times(numbers[u + 2], exact(1, root=(a + u + 2) * (a - u))))
        if v < b:
            total = plus(total, times(numbers[u], exact(1, root=(b + v + 2) * (b - v))))
        found[u] = times(total, exact(1, bottom=part, root=part))
    return found
