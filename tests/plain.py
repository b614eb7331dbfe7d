"""What the tests share: exact numbers worked out in another way, and things that are none."""

import random
from decimal import Decimal, localcontext
from fractions import Fraction
from math import prod

from turncouple.numbers import exact, plus, times


def deep(kind, levels):
    thing = kind()
    for level in range(levels - 1):
        thing = kind([thing])
    return thing


def nested_dict(levels):
    thing = {}
    for level in range(levels - 1):
        thing = {"a": thing}
    return thing


# What is no whole number, whatever it is.
NOT_WHOLE = [
    None, True, False, "", "1", "0", "1/2", b"1", (), (1,), (1, 2), [], [1], {}, {1: 2},
    deep(list, 14), deep(tuple, 14), nested_dict(14), exact(1), exact(0), [exact(1)],
]
# What is no exact number, whatever it is.
NOT_EXACT = [
    None, True, False, 0, 1, -3, 10 ** 2999, "", "1", "0", "r2", "Exact(1)", (), ((1, 1, 1),), (1, 1, 1),
    [], [1], {}, {1: 2}, deep(list, 14), deep(tuple, 14), nested_dict(14), [exact(1)], (exact(1),),
]


def primes_to(limit):
    return [n for n in range(2, limit) if all(n % k for k in range(2, n))]


def prime_set(root):
    """The primes of a root without squares."""
    found = set()
    factor = 2
    while root > 1:
        if root % factor == 0:
            root //= factor
            assert factor not in found
            found.add(factor)
        else:
            factor += 1
    return frozenset(found)


def field(number):
    """An exact number as a dict from the primes of each root to its Fraction."""
    return {prime_set(root): Fraction(top, bottom) for root, top, bottom in number.parts}


def parts(table):
    """What `parts` is to be of such a dict."""
    rows = [(prod(primes), worth.numerator, worth.denominator) for primes, worth in table.items() if worth]
    return tuple(sorted(rows))


def field_sum(one, other, factor=1):
    found = dict(one)
    for primes, worth in other.items():
        found[primes] = found.get(primes, Fraction(0)) + factor * worth
    return found


def field_product(one, other):
    found = {}
    for primes, worth in one.items():
        for others, by in other.items():
            key = primes ^ others
            found[key] = found.get(key, Fraction(0)) + worth * by * prod(primes & others)
    return found


def near(number, places=60):
    """The number as a Decimal of so many places."""
    with localcontext() as context:
        context.prec = places
        found = Decimal(0)
        for root, top, bottom in number.parts:
            found += Decimal(top) / Decimal(bottom) * Decimal(root).sqrt()
        return found


def made(*rows):
    """The exact number of rows (top, bottom, root), the roots to 1000000."""
    found = exact(0)
    for top, bottom, root in rows:
        found = plus(found, exact(top, bottom=bottom, root=root))
    return found


def number_of(top, bottom, primes):
    """top / bottom times the root of the product of the primes, however high."""
    found = exact(top, bottom=bottom)
    for prime in primes:
        found = times(found, exact(1, root=prime))
    return found


def some_numbers(seed, many, primes, terms=5, high=30):
    """A list of numbers with roots of these primes, always the same for one seed."""
    luck = random.Random(seed)
    numbers = []
    for at in range(many):
        number = exact(0)
        for term in range(luck.randint(0, terms)):
            chosen = [prime for prime in primes if luck.random() < 0.4]
            number = plus(number, number_of(luck.randint(-high, high), luck.randint(1, high), chosen))
        numbers.append(number)
    return numbers
