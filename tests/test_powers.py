"""Promise 15: powers, three_by_powers."""

import unittest
from itertools import permutations, product

from tests.plain import NOT_WHOLE
from tests.test_threes import WIDE
from tests.told import LONG, NOT_OFFSETS, NOT_PAIRS, all_offsets, joins, refused, squared, told_three, triples_to
from turncouple.errors import NoOffset, NoPlace, NoSize, TooWide
from turncouple.numbers import Exact, exact
from turncouple.powers import powers, three_by_powers
from turncouple.threes import three

# x1 y2 - x2 y1, x2 y3 - x3 y2, x3 y1 - x1 y3, by the powers of x1, y1, x2, y2, x3, y3.
DIFFERENCES = (
    {(1, 0, 0, 1, 0, 0): 1, (0, 1, 1, 0, 0, 0): -1},
    {(0, 0, 1, 0, 0, 1): 1, (0, 0, 0, 1, 1, 0): -1},
    {(0, 1, 0, 0, 1, 0): 1, (1, 0, 0, 0, 0, 1): -1},
)


def multiplied(one, other):
    found = {}
    for place, number in one.items():
        for by, factor in other.items():
            key = tuple(k + m for k, m in zip(place, by))
            found[key] = found.get(key, 0) + number * factor
    return {key: number for key, number in found.items() if number != 0}


def plain_powers(p, q, r):
    """The product, one difference at a time."""
    found = {(0,) * 6: 1}
    for difference, power in zip(DIFFERENCES, (p, q, r)):
        for turn in range(power):
            found = multiplied(found, difference)
    return found


class Powers(unittest.TestCase):
    def test_some(self):
        self.assertEqual(powers(0, 0, 0), {(0, 0, 0, 0, 0, 0): 1})
        for at, difference in enumerate(DIFFERENCES):
            self.assertEqual(powers(*[int(k == at) for k in range(3)]), difference)
        self.assertEqual(powers(2, 0, 0), {(2, 0, 0, 2, 0, 0): 1, (1, 1, 1, 1, 0, 0): -2, (0, 2, 2, 0, 0, 0): 1})

    def test_products_that_come_to_nought_are_left_out(self):
        told = powers(1, 1, 1)
        self.assertEqual(len(told), 6)
        self.assertNotIn((1, 1, 1, 1, 1, 1), told)

    def test_multiplied_out_one_by_one(self):
        for p, q, r in product(range(5), repeat=3):
            self.assertEqual(powers(p, q, r), plain_powers(p, q, r))
        for p, q, r in [(12, 0, 0), (0, 12, 1), (1, 0, 12), (7, 5, 3), (12, 12, 12), (11, 12, 10)]:
            self.assertEqual(powers(p, q, r), plain_powers(p, q, r))

    def test_kinds_and_whose_it_is(self):
        told = powers(2, 1, 3)
        self.assertIs(type(told), dict)
        for place, number in told.items():
            self.assertEqual((type(place), len(place), type(number)), (tuple, 6, int))
        before = dict(told)
        told.clear()
        self.assertEqual(powers(2, 1, 3), before)

    def test_no_place(self):
        for thing in [*NOT_WHOLE, 13, 14, -1, -12, LONG, -LONG]:
            for things in [(thing, 1, 1), (1, thing, 1), (1, 1, thing), (thing, thing, thing), (12, 12, thing),
                           (thing, 13, 0)]:
                refused(self, NoPlace, powers, *things)
        self.assertRaises(IndexError, powers, 13, 0, 0)


class ThreeByPowers(unittest.TestCase):
    def test_all_small_ones(self):
        for sizes in product(range(5), repeat=3):
            for offsets in all_offsets(*sizes):
                triple = tuple(zip(sizes, offsets))
                self.assertEqual(three_by_powers(*triple), three(*triple), triple)
                self.assertEqual(squared(three_by_powers(*triple)), told_three(*triple), triple)
        self.assertIsInstance(three_by_powers((2, 0), (2, 0), (2, 0)), Exact)

    def test_more(self):
        edges = [
            ((24, 0), (24, 0), (24, 0)), ((24, 24), (24, -24), (24, 0)), ((24, 2), (24, -4), (24, 2)),
            ((12, 0), (12, 0), (24, 0)), ((24, 24), (12, -12), (12, -12)), ((12, 12), (12, -12), (0, 0)),
        ]
        for triple in triples_to(9)[::41] + edges:
            self.assertEqual(three_by_powers(*triple), three(*triple), triple)

    def test_too_wide_just_where_it_is_not_told_to_be_nought(self):
        wide = 0
        edges = [((13, 1), (13, -1), (0, 0)), ((0, 0), (13, -1), (13, 1)), ((13, 13), (0, 0), (13, -13))]
        for (a, u), (b, v), (c, w) in WIDE + edges:
            p, q, r = (a + b - c) // 2, (b + c - a) // 2, (c + a - b) // 2
            if max(p, q, r) > 12:
                wide += 1
                refused(self, TooWide, three_by_powers, (a, u), (b, v), (c, w))
            else:
                self.assertEqual(three_by_powers((a, u), (b, v), (c, w)), three((a, u), (b, v), (c, w)))
            # Offsets that don't add up to 0, and sizes that may not be joined.
            if a > 0:
                self.assertEqual(three_by_powers((a, u - 2 if u > -a else u + 2), (b, v), (c, w)), exact(0))
            for d in (0, 40):
                if d != c and not joins(a, b, d):
                    self.assertEqual(three_by_powers((a, u), (b, v), (d, 0)), exact(0))
        self.assertGreater(wide, 20)

    def test_12_and_13_in_each_place(self):
        for p, q, r in set(permutations((12, 5, 4))) | set(permutations((13, 5, 4))) | {(12, 12, 12), (13, 13, 13)}:
            a, b, c = p + r, p + q, q + r
            triple = ((a, a), (b, -b), (c, b - a))
            if max(p, q, r) > 12:
                refused(self, TooWide, three_by_powers, *triple)
            else:
                self.assertEqual(three_by_powers(*triple), three(*triple))

    def test_refused_as_joined(self):
        for thing in NOT_PAIRS:
            for other in [(2, 0), (40, 0), (2, 1)]:
                refused(self, NoSize, three_by_powers, thing, other, (40, 0))
                refused(self, NoSize, three_by_powers, other, thing, (40, 0))
                refused(self, NoSize, three_by_powers, other, (40, 0), thing)
        for thing in NOT_OFFSETS:
            for other in [(2, 0), (40, 0), (1, 1)]:
                refused(self, NoOffset, three_by_powers, (2, thing), other, (40, 0))
                refused(self, NoOffset, three_by_powers, other, (2, thing), (40, 0))
                refused(self, NoOffset, three_by_powers, other, (40, 0), (2, thing))


if __name__ == "__main__":
    unittest.main()
