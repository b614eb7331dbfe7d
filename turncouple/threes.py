"""Threes: the coupling numbers of three pairs, the symmetries of their squares, and why one is 0."""

from turncouple.errors import NoTriple
from turncouple.numbers import exact, sign, times
from turncouple.turns import can_join, is_size, joined_number, need_pairs, terms_of_joined
from turncouple.whole import is_odd, is_whole

# The six orders of three rows or columns, each by the exchanges that lead to it.
ORDERS = ((), ((0, 1),), ((0, 2),), ((1, 2),), ((0, 1), (0, 2)), ((0, 1), (1, 2)))


def three(one, other, third):
    """The number of three pairs (size, offset)."""
    need_pairs([one, other, third])
    return three_number(one, other, third)


def square_of(one, other, third):
    """The square of three pairs."""
    need_pairs([one, other, third])
    need_square(one, other, third)
    return square_with(one, other, third)


def of_square(square):
    """The three pairs of a square."""
    if not is_square(square):
        raise NoTriple("a square has three rows of three, all rows and columns with one sum")
    pairs = tuple([(high + low, high - low) for low, high in zip(square[1], square[2])])
    for size, offset in pairs:
        if not is_size(size):
            raise NoTriple("a square of a size above 40")
    return pairs


def least_three(one, other, third):
    """(square, sign): the least square to which symmetries lead, and their sign (0 where both signs lead there)."""
    return least_square(square_of(one, other, third))


def alike_threes(triple, other):
    """("alike", steps, sign) from the square of the one to that of the other; or ("unlike", both least squares)."""
    first = square_of_triple(triple)
    second = square_of_triple(other)
    for steps in all_ways():
        if square_behind(first, steps) == second:
            return "alike", steps, sign_along(first, steps)
    return "unlike", least_square(first)[0], least_square(second)[0]


def why_three(one, other, third):
    """Why a three is 0, or ("not", sign)."""
    need_pairs([one, other, third])
    (a, u), (b, v), (c, w) = one, other, third
    if not can_join(a, b, c):
        return ("triangle",)
    if u + v + w != 0:
        return ("offsets",)
    found = sign(three_number(one, other, third))
    if found != 0:
        return "not", found
    square = square_with(one, other, third)
    for steps in all_ways():
        if sign_along(square, steps) == -1 and square_behind(square, steps) == square:
            return "signs", steps
    return "met", terms_of_joined(one, other, c)


def three_number(one, other, third):
    """The number of three, of what is known to be pairs."""
    (a, u), (b, v), (c, w) = one, other, third
    number = joined_number(one, other, (c, -w))
    # 1 over the root of c + 1 is that root over c + 1.
    return times(number, exact(-1 if is_odd((a - b - w) // 2) else 1, bottom=c + 1, root=c + 1))


def square_of_triple(triple):
    """The square of a tuple of three pairs."""
    if not isinstance(triple, tuple) or len(triple) != 3:
        raise NoTriple("a triple is a tuple of three pairs")
    return square_of(*triple)


def need_square(one, other, third):
    """Refuse pairs that have no square."""
    (a, u), (b, v), (c, w) = one, other, third
    if not can_join(a, b, c) or u + v + w != 0:
        raise NoTriple("sizes that may not be joined, or offsets that don't add up to 0, have no square")


def square_with(one, other, third):
    """The square of what is known to have one."""
    (a, u), (b, v), (c, w) = one, other, third
    return (
        ((b + c - a) // 2, (c + a - b) // 2, (a + b - c) // 2),
        ((a - u) // 2, (b - v) // 2, (c - w) // 2),
        ((a + u) // 2, (b + v) // 2, (c + w) // 2),
    )


def is_square(thing):
    """Whether it is three rows of three whole numbers from 0 on, all rows and columns with one sum."""
    if not isinstance(thing, tuple) or len(thing) != 3:
        return False
    for row in thing:
        if not isinstance(row, tuple) or len(row) != 3:
            return False
        if not all([is_whole(number) and number >= 0 for number in row]):
            return False
    columns = list(zip(*thing))
    return all([sum(line) == sum(thing[0]) for line in [*thing, *columns]])


def all_ways():
    """All symmetries of a square, each as a list of steps, those of few steps first."""
    ways = []
    for turns in ([], [("turned",)]):
        for rows in ORDERS:
            for columns in ORDERS:
                exchanges = [("rows", i, j) for i, j in rows] + [("columns", i, j) for i, j in columns]
                ways.append(exchanges + turns)
    return sorted(ways, key=len)


def square_behind(square, steps):
    """The square to which steps lead."""
    for step in steps:
        if step == ("turned",):
            square = tuple(zip(*square))
        else:
            square = exchanged(square, step)
    return square


def exchanged(square, step):
    """The square with two rows or two columns exchanged."""
    word, i, j = step
    order = [0, 1, 2]
    order[i], order[j] = j, i
    if word == "rows":
        return tuple([square[at] for at in order])
    return tuple([tuple([row[at] for at in order]) for row in square])


def sign_along(square, steps):
    """The sign of all steps together."""
    exchanges = [step for step in steps if step != ("turned",)]
    return -1 if is_odd(sum(square[0]) * len(exchanges)) else 1


def least_square(square):
    """(square, sign) of the least of all squares to which symmetries lead from one."""
    found = [(square_behind(square, steps), sign_along(square, steps)) for steps in all_ways()]
    least = min([reached for reached, mark in found])
    marks = [mark for reached, mark in found if reached == least]
    if 1 in marks and -1 in marks:
        return least, 0
    return least, marks[0]
