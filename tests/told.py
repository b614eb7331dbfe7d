"""What the tests of couplings share: the sums as the document tells them, by fractions alone, and wrong things."""

from fractions import Fraction
from itertools import permutations, product
from math import factorial, prod

from tests.plain import NOT_WHOLE
from turncouple.numbers import exact, plus, times

LONG = 10 ** 2999
# What is no size, whatever it is.
NOT_SIZES = [*NOT_WHOLE, -1, 41, -2, 42, -40, LONG, -LONG]
# What is no pair with a size, whatever it is.
NOT_PAIRS = [
    *[thing for thing in NOT_WHOLE if thing != (1, 2)], 0, 2, LONG, (2,), (2, 0, 0), [2, 0], {2: 0}, "20", (),
    ((2, 0),), ((2, 0), 0), (41, 1), (-1, 1), (True, 1), (False, 0), ("2", 0), (None, 0), ([2], 0), ({}, 0),
    (exact(2), 0), (LONG, 0),
]
# What is no offset of the size 2, whatever it is.
NOT_OFFSETS = [*NOT_WHOLE, 1, -1, 3, 4, -3, -4, LONG, -LONG]


def refused(test, kind, work, *things, **named):
    """Whether a call is refused with this very class."""
    with test.assertRaises(kind) as caught:
        work(*things, **named)
    test.assertIs(type(caught.exception), kind, (work, things, named))


def offsets_of(size):
    return range(-size, size + 1, 2)


def joins(*sizes):
    return sum(sizes) % 2 == 0 and 2 * max(sizes) <= sum(sizes)


def all_offsets(*sizes):
    return product(*[offsets_of(size) for size in sizes])


def rooted(factor, square):
    """factor times the root of square, fractions both, as its square with its sign."""
    return factor * abs(factor) * square


def squared(number):
    """An exact number of at most one root as its square with its sign."""
    if number.parts == ():
        return Fraction(0)
    ((root, top, bottom),) = number.parts
    return Fraction(top * abs(top) * root, bottom * bottom)


def terms_of(falling, rising, above=()):
    """The terms of a sum over k: numbers less k, and k more, with `!` below, and k more with `!` above."""
    found = []
    for k in range(200):
        below = [number - k for number in falling] + [number + k for number in rising]
        if min(below + [number + k for number in above]) >= 0:
            top = prod(factorial(number + k) for number in above)
            found.append(Fraction((-1) ** k * top, prod(factorial(number) for number in below)))
    return found


def joined_terms(one, other, c):
    (a, u), (b, v) = one, other
    return terms_of([(a + b - c) // 2, (a - u) // 2, (b + v) // 2], [0, (c - b + u) // 2, (c - a - v) // 2])


def told_joined(one, other, to):
    """The square, with its sign, of a joined number, as point 8 tells it."""
    (a, u), (b, v), (c, w) = one, other, to
    if not joins(a, b, c) or u + v != w:
        return Fraction(0)
    above = [a + b - c, a - b + c, b - a + c, a + u, a - u, b + v, b - v, c + w, c - w]
    top = (c + 1) * prod(factorial(number // 2) for number in above)
    return rooted(sum(joined_terms(one, other, c)), Fraction(top, factorial((a + b + c) // 2 + 1)))


def told_three(one, other, third):
    """The same of a three, as point 9 tells it."""
    (a, u), (b, v), (c, w) = one, other, third
    return (-1) ** ((a - b - w) // 2 % 2) * told_joined(one, other, (c, -w)) / (c + 1)


def triangles(sizes):
    a, b, c, d, e, f = sizes
    return [(a, b, c), (a, e, f), (d, b, f), (d, e, c)]


def six_terms(sizes):
    a, b, c, d, e, f = sizes
    falling = [(a + b + d + e) // 2, (b + c + e + f) // 2, (c + a + f + d) // 2]
    return terms_of(falling, [-sum(triangle) // 2 for triangle in triangles(sizes)], [1])


def told_six(sizes):
    """The same of a six, as point 12 tells it."""
    square = Fraction(1)
    for x, y, z in triangles(sizes):
        if not joins(x, y, z):
            return Fraction(0)
        top = prod(factorial(number // 2) for number in (x + y - z, x - y + z, y + z - x))
        square *= Fraction(top, factorial((x + y + z) // 2 + 1))
    return rooted(sum(six_terms(sizes)), square)


def total(numbers):
    """The sum of exact numbers."""
    found = exact(0)
    for number in numbers:
        found = plus(found, number)
    return found


def together(*numbers):
    """The product of exact numbers and whole ones."""
    found = exact(1)
    for number in numbers:
        found = times(found, exact(number) if isinstance(number, int) else number)
    return found


def step_done(square, step):
    """A square with two rows or columns exchanged, or turned, and the sign of this."""
    rows = [list(row) for row in square]
    mark = (-1) ** sum(rows[0])
    word, *places = step
    if word == "turned":
        assert step == ("turned",)
        return tuple(tuple(rows[k][at] for k in range(3)) for at in range(3)), 1
    i, j = places
    assert (type(i), type(j)) == (int, int) and 0 <= i < j <= 2
    if word == "rows":
        rows[i], rows[j] = rows[j], rows[i]
    else:
        assert word == "columns"
        for row in rows:
            row[i], row[j] = row[j], row[i]
    return tuple(tuple(row) for row in rows), mark


def steps_done(square, steps):
    """The square to which steps lead, one by one, and their sign together."""
    mark = 1
    for step in steps:
        square, factor = step_done(square, step)
        mark *= factor
    return square, mark


def is_even(order):
    return sum(order[i] > order[j] for i in range(3) for j in range(i + 1, 3)) % 2 == 0


def all_symmetries(square):
    """All 72 (square, sign) to which symmetries lead, by orders of rows and columns in place of steps."""
    found = []
    odd = sum(square[0]) % 2
    for rows in permutations(range(3)):
        for columns in permutations(range(3)):
            mark = -1 if odd and is_even(rows) != is_even(columns) else 1
            led = tuple(tuple(square[i][j] for j in columns) for i in rows)
            found.append((led, mark))
            found.append((tuple(zip(*led)), mark))
    return found


def triples_to(highest):
    """All triples of pairs of sizes to the highest whose sizes may be joined and whose offsets add up to 0."""
    found = []
    for sizes in product(range(highest + 1), repeat=3):
        if joins(*sizes):
            for offsets in all_offsets(*sizes):
                if sum(offsets) == 0:
                    found.append(tuple(zip(sizes, offsets)))
    return found
