"""Promise 7: offsets, may_join, sizes_of."""

import unittest

from tests.told import NOT_SIZES, refused
from turncouple.errors import NoSize
from turncouple.turns import may_join, offsets, sizes_of


class Offsets(unittest.TestCase):
    def test_small_sizes(self):
        for size, due in [(0, [0]), (1, [-1, 1]), (2, [-2, 0, 2]), (3, [-3, -1, 1, 3])]:
            self.assertEqual(offsets(size), due)

    def test_all_sizes(self):
        for size in range(41):
            due = [k for k in range(-size, size + 1) if (k - size) % 2 == 0]
            self.assertEqual(offsets(size), due)
            self.assertEqual(len(due), size + 1)
            self.assertIs(type(offsets(size)), list)

    def test_a_told_list_is_the_askers_own(self):
        for size in (0, 1, 5, 40):
            told = offsets(size)
            before = list(told)
            told.append(7)
            told[0] = None
            self.assertEqual(offsets(size), before)

    def test_what_is_no_size(self):
        for thing in NOT_SIZES:
            refused(self, NoSize, offsets, thing)


class MayJoin(unittest.TestCase):
    def test_all_to_12(self):
        for a in range(13):
            for b in range(13):
                for c in range(13):
                    due = (a + b + c) % 2 == 0 and c in range(abs(a - b), a + b + 1)
                    self.assertIs(may_join(a, b, c), due, (a, b, c))

    def test_by_one_and_by_two(self):
        for a, b in [(0, 0), (1, 1), (2, 3), (5, 9), (20, 20), (11, 29), (40, 0)]:
            self.assertIs(may_join(a, b, a + b), True)
            self.assertIs(may_join(a, a + b, b), True)
            self.assertIs(may_join(a + b, b, a), True)
            if a + b < 40:
                self.assertIs(may_join(a, b, a + b + 1), False)
                self.assertIs(may_join(a + b + 1, b, a), False)
            if a + b < 39:
                self.assertIs(may_join(a, b, a + b + 2), False)
                self.assertIs(may_join(a, a + b + 2, b), False)
                self.assertIs(may_join(a + b + 2, b, a), False)
            if a + b > 0:
                self.assertIs(may_join(a, b, a + b - 1), False)
        self.assertIs(may_join(40, 40, 40), True)
        self.assertIs(may_join(40, 40, 39), False)
        self.assertIs(may_join(40, 39, 1), True)
        self.assertIs(may_join(40, 38, 0), False)

    def test_what_is_no_size(self):
        for thing in NOT_SIZES:
            for things in [(thing, 2, 2), (2, thing, 2), (2, 2, thing), (thing, thing, 2), (2, thing, thing),
                           (thing, 2, thing), (thing, 41, None), (0, 40, thing), (1, 2, thing)]:
                refused(self, NoSize, may_join, *things)


class SizesOf(unittest.TestCase):
    def test_some(self):
        self.assertEqual(sizes_of(0, 0), [0])
        self.assertEqual(sizes_of(0, 7), [7])
        self.assertEqual(sizes_of(1, 1), [0, 2])
        self.assertEqual(sizes_of(2, 3), [1, 3, 5])
        self.assertEqual(sizes_of(40, 40), list(range(0, 41, 2)))
        self.assertEqual(sizes_of(40, 39), list(range(1, 40, 2)))
        self.assertEqual(sizes_of(39, 39), list(range(0, 41, 2)))
        self.assertEqual(sizes_of(40, 0), [40])
        self.assertEqual(sizes_of(40, 1), [39])
        self.assertEqual(sizes_of(20, 20), list(range(0, 41, 2)))

    def test_all_against_may_join(self):
        for a in range(41):
            for b in range(41):
                told = sizes_of(a, b)
                self.assertIs(type(told), list)
                self.assertEqual(told, [c for c in range(41) if may_join(a, b, c)])

    def test_a_told_list_is_the_askers_own(self):
        told = sizes_of(4, 3)
        told.reverse()
        told.pop()
        self.assertEqual(sizes_of(4, 3), [1, 3, 5, 7])

    def test_what_is_no_size(self):
        for thing in NOT_SIZES:
            before = repr(thing) if thing not in (NOT_SIZES[-1], NOT_SIZES[-2]) else None
            refused(self, NoSize, sizes_of, thing, 2)
            refused(self, NoSize, sizes_of, 2, thing)
            refused(self, NoSize, sizes_of, thing, thing)
            if before is not None:
                self.assertEqual(repr(thing), before)


if __name__ == "__main__":
    unittest.main()
