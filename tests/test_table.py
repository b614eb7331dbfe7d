"""Promises 4 and 8: table, and that it is orthogonal both ways."""

import unittest
from itertools import product

from tests.told import NOT_SIZES, all_offsets, joins, refused, total
from turncouple.errors import NoSize, TooWide
from turncouple.numbers import Exact, exact, times
from turncouple.turns import joined, sizes_of, table

SIZES = [(0, 0), (0, 12), (1, 1), (2, 1), (1, 2), (3, 4), (5, 5), (6, 2), (12, 1)]


class Numbers(unittest.TestCase):
    def test_against_joined(self):
        for a, b in SIZES + [(12, 12), (12, 11)]:
            told = table(a, b)
            self.assertIs(type(told), dict)
            due = {}
            for c in range(a + b + 1):
                if joins(a, b, c):
                    for u, v in all_offsets(a, b):
                        if abs(u + v) <= c:
                            number = joined((a, u), (b, v), to=(c, u + v))
                            if number != exact(0):
                                due[((c, u + v), (u, v))] = number
            self.assertEqual(told, due)

    def test_noughts_are_left_out(self):
        told = table(2, 2)
        self.assertNotIn(((2, 0), (0, 0)), told)
        self.assertEqual(str(told[((0, 0), (0, 0))]), "-1/3*r3")
        self.assertEqual(table(0, 0), {((0, 0), (0, 0)): exact(1)})
        for number in told.values():
            self.assertIsInstance(number, Exact)

    def test_a_told_dict_is_the_askers_own(self):
        told = table(1, 2)
        before = dict(told)
        told.clear()
        self.assertEqual(table(1, 2), before)
        self.assertEqual(len(before), 10)


class Orthogonal(unittest.TestCase):
    def test_by_products_and_by_joined_ones(self):
        for a, b in SIZES + [(4, 4)]:
            told = table(a, b)
            ends = [(c, w) for c in sizes_of(a, b) for w in range(-c, c + 1, 2)]
            places = list(all_offsets(a, b))
            self.assertEqual(len(ends), len(places))
            self.check(ends, lambda end: {place: told[end, place] for place in places if (end, place) in told})
            self.check(places, lambda place: {end: told[end, place] for end in ends if (end, place) in told})

    def check(self, keys, row_of):
        rows = [row_of(key) for key in keys]
        for at, row in enumerate(rows):
            for place, other in enumerate(rows):
                held = total(times(row[key], other[key]) for key in row if key in other)
                self.assertEqual(held, exact(1 if at == place else 0))


class Refused(unittest.TestCase):
    def test_too_wide(self):
        for a, b in [(13, 1), (1, 13), (13, 13), (40, 0), (0, 40), (12, 13), (13, 12), (14, 2), (40, 40)]:
            refused(self, TooWide, table, a, b)
        for a, b in [(12, 0), (0, 12)]:
            self.assertEqual(len(table(a, b)), 13)

    def test_what_is_no_size(self):
        for thing in NOT_SIZES:
            for other in (0, 12, 13, 40):
                refused(self, NoSize, table, thing, other)
                refused(self, NoSize, table, other, thing)
            refused(self, NoSize, table, thing, thing)

    def test_sizes_of_each_pair(self):
        for a, b in product(range(4), repeat=2):
            self.assertEqual(sorted({key[0][0] for key in table(a, b)}), sizes_of(a, b))


if __name__ == "__main__":
    unittest.main()
