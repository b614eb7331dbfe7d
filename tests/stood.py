"""What the tests of standings, trees and benches share: drawn ones, plain sums over products, and wrong things."""

from fractions import Fraction
from itertools import product
from math import prod

from tests.plain import NOT_WHOLE, deep, nested_dict
from tests.told import all_offsets, joins, together, total
from turncouple.numbers import exact, plus, times
from turncouple.standings import Standing
from turncouple.turns import joined

NOUGHT = exact(0)
# What is no name, whatever it is.
NOT_NAMES = [*[thing for thing in NOT_WHOLE if thing != ""], "", "A", "aB", "a1", "a b", " a", "a ", "abcdefghi", "a\n",
             "a:", "-", "_", 0, 7, 10 ** 2999]
# What is neither a name nor a tuple, a list, a dict of this package's kinds, nor a standing.
OTHER_THINGS = [None, True, False, 0, 1, -3, 10 ** 2999, "", "A", "a b", b"a", (), [], {}, ("a",), ["a"],
                {"a": 1}, exact(0), exact(1), deep(list, 14), deep(tuple, 14), nested_dict(14)]
NUMBERS = [exact(0), exact(0), exact(1), exact(-1), exact(2, bottom=3), exact(1, root=2), exact(-3, bottom=4, root=6),
           plus(exact(1), exact(1, root=3))]
HALVES = [((1, 1), (0, 1)), ((0, 1), (1, 1)), ((-1, 1), (0, 1)), ((0, 1), (-1, 1)), ((3, 5), (4, 5)),
          ((-4, 5), (3, 5)), ((5, 13), (-12, 13)), ((-8, 17), (-15, 17)), ((20, 29), (21, 29))]
# The longest half of sixty figures that is easily told: (a * a - b * b, 2 * a * b) over a * a + b * b.
LONG_SIDE = 7 * 10 ** 29 - 1


def half_of(a, b):
    """The half of two whole numbers that share nothing, one of them even."""
    bottom = a * a + b * b
    return (a * a - b * b, bottom), (2 * a * b, bottom)


def places_of(turns):
    """All tuples of offsets of turns."""
    return list(all_offsets(*[size for name, size in turns]))


def products_of(turns):
    return prod(size + 1 for name, size in turns)


def drawn_turns(luck, many, most=128, names="abcdef", highest=8):
    """So many turns, of at most so many products."""
    chosen = luck.sample(list(names), many)
    while True:
        turns = tuple((name, luck.randint(0, highest)) for name in chosen)
        if products_of(turns) <= most:
            return turns


def drawn_standing(luck, turns, numbers=NUMBERS):
    return Standing(turns, {places: luck.choice(numbers) for places in places_of(turns)})


def drawn_labelled(luck, turns):
    """A labelled tree over turns, in whatever order and form."""
    parts = list(turns)
    while len(parts) > 1:
        one = parts.pop(luck.randrange(len(parts)))
        other = parts.pop(luck.randrange(len(parts)))
        low, high = abs(one[-1] - other[-1]), one[-1] + other[-1]
        parts.append((one, other, luck.randrange(low, min(high, 40) + 1, 2)))
    return parts[0]


def drawn_tree(luck, names):
    parts = list(names)
    while len(parts) > 1:
        one = parts.pop(luck.randrange(len(parts)))
        other = parts.pop(luck.randrange(len(parts)))
        parts.append((one, other))
    return parts[0]


def labelled_of(tree, sizes):
    """All labelled trees of a tree whose names have these sizes, joints to 40."""
    if isinstance(tree, str):
        return [(tree, sizes[tree])]
    found = []
    for left, right in product(labelled_of(tree[0], sizes), labelled_of(tree[1], sizes)):
        found += [(left, right, size) for size in range(41) if joins(left[-1], right[-1], size)]
    return found


def turns_of(labelled):
    return (labelled,) if len(labelled) == 2 else turns_of(labelled[0]) + turns_of(labelled[1])


def product_of_joints(labelled, at):
    """(offset, number) of a labelled tree where its turns have the offsets that a dict tells."""
    if len(labelled) == 2:
        return at[labelled[0]], exact(1)
    left, right, size = labelled
    u, one = product_of_joints(left, at)
    v, other = product_of_joints(right, at)
    if one == NOUGHT or other == NOUGHT or abs(u + v) > size:
        return u + v, NOUGHT
    return u + v, together(one, other, joined((left[-1], u), (right[-1], v), to=(size, u + v)))


def plain_stands(labelled, offset):
    """The numbers of a labelled tree at an offset, product by product, those of 0 left out."""
    turns = turns_of(labelled)
    found = {}
    for places in places_of(turns):
        if sum(places) == offset:
            at = {name: place for (name, size), place in zip(turns, places)}
            number = product_of_joints(labelled, at)[1]
            if number != NOUGHT:
                found[places] = number
    return found


def from_left(turns):
    """All labelled trees of turns joined from the left."""
    tree = turns[0][0]
    for name, size in turns[1:]:
        tree = (tree, name)
    return labelled_of(tree, dict(turns))


def left_by(turns, numbers, question, outcome):
    """What is left of numbers at places where a question has an outcome, by plain sums over products."""
    word, names = question
    inside = [at for at, (name, size) in enumerate(turns) if name in names]
    if word == "offset":
        return {places: number for places, number in numbers.items() if sum(places[at] for at in inside) == outcome}
    found = {}
    for labelled in from_left([turns[at] for at in inside]):
        if labelled[-1] == outcome:
            for offset in range(-outcome, outcome + 1, 2):
                add_along(found, numbers, plain_stands(labelled, offset), inside)
    return {places: number for places, number in found.items() if number != NOUGHT}


def add_along(found, numbers, along, inside):
    """Add the part of numbers that stands along some numbers of the turns at the places inside."""
    parts = {}
    for places, number in numbers.items():
        key = tuple(places[at] for at in inside)
        if key in along:
            rest = tuple(None if at in inside else place for at, place in enumerate(places))
            parts[rest] = plus(parts.get(rest, NOUGHT), times(number, along[key]))
    for rest, part in parts.items():
        for key, number in along.items():
            places = list(rest)
            for at, place in zip(inside, key):
                places[at] = place
            found[tuple(places)] = plus(found.get(tuple(places), NOUGHT), times(part, number))


def outcomes_of(turns, question):
    """All outcomes that a question might have."""
    word, names = question
    high = sum(size for name, size in turns if name in names)
    return range(high % 2, high + 1, 2) if word == "size" else range(-high, high + 1, 2)


def square_of(numbers):
    return total(times(number, number) for number in numbers.values())


def fraction(number):
    """An exact number of root 1 alone as a Fraction."""
    if number.parts == ():
        return Fraction(0)
    ((root, top, bottom),) = number.parts
    assert root == 1
    return Fraction(top, bottom)
