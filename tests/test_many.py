"""Promise 18: many sizes joined from the left, their labels counted, told and placed."""

import random
import unittest
from math import comb

from tests.plain import NOT_WHOLE
from tests.told import LONG, joins, refused
from turncouple.errors import NoPlace, NoRow, NoSize, TooWide
from turncouple.many import counted, counted_by_offsets, label_at, labels, place_of

SMALL = [[0], [5], [12], [0, 0], [1, 1], [2, 3], [12, 12], [1, 1, 1], [2, 2, 2], [3, 1, 4], [0, 2, 0, 2], [1] * 6,
         [2] * 5, [4, 0, 3, 1], [12, 1, 12], [1, 2, 3, 4]]
# Rows whose counts are far above what can be gone through.
LONG_ROWS = [[12] * 10, [11] * 10, [12, 11, 10, 9, 8, 7, 6, 5, 4, 3], [1, 12] * 5]
WRONG_ROWS = [*[thing for thing in NOT_WHOLE if thing != [1]], 0, 1, 12, [], (1, 2), "12", {1: 2}, [1] * 11, [0] * 11,
              [13], [1, 13], [-1], [12, -1], [True], [1, False], [None], ["1"], [[1]], [(1,)], [1, 2, LONG], (1,)]
WRONG_ENDS = [*NOT_WHOLE, -1, -2, 121, 122, LONG, -LONG]


def all_labels(row):
    """All labels of a row, gone through one by one, with the size that each comes to."""
    found = [((), row[0])]
    for size in row[1:]:
        found = [((*label, end), end) for label, far in found for end in range(far + size + 1) if joins(far, size, end)]
    return found


class Small(unittest.TestCase):
    def test_gone_through_one_by_one(self):
        luck = random.Random(18)
        drawn = [[luck.randint(0, 4) for k in range(luck.randint(1, 5))] for at in range(30)]
        for row in SMALL + drawn:
            every = all_labels(row)
            for to in [*range(sum(row) + 3), 119, 120]:
                due = sorted(label for label, end in every if end == to)
                self.assertEqual(counted(row, to=to), len(due))
                self.assertEqual(counted_by_offsets(row, to=to), len(due))
                told = labels(row, to=to)
                self.assertEqual(told, due)
                self.assertIs(type(told), list)
                for place, label in enumerate(due):
                    self.assertEqual(label_at(row, place, to=to), label)
                    self.assertIs(type(label_at(row, place, to=to)), tuple)
                    self.assertEqual(place_of(row, label, to=to), place)
                refused(self, NoPlace, label_at, row, len(due), to=to)

    def test_one_size(self):
        self.assertEqual(labels([7], to=7), [()])
        self.assertEqual(labels([7], to=5), [])
        self.assertEqual((counted([7], to=7), counted([7], to=8), counted([0], to=0)), (1, 0, 1))
        self.assertEqual((label_at([7], 0, to=7), place_of([7], (), to=7)), ((), 0))
        refused(self, NoPlace, place_of, [7], (), to=5)
        refused(self, NoPlace, label_at, [7], 0, to=5)

    def test_known_ones(self):
        self.assertEqual(labels([1, 1, 1], to=1), [(0, 1), (2, 1)])
        self.assertEqual(labels([2, 2, 2], to=2), [(0, 2), (2, 2), (4, 2)])
        self.assertEqual(counted([1] * 10, to=0), 42)
        self.assertEqual(counted([12] * 10, to=120), 1)
        self.assertEqual(label_at([12] * 10, 0, to=120), tuple(range(24, 121, 12)))
        self.assertEqual(labels([1, 1], to=1), [])


class Great(unittest.TestCase):
    def test_both_counts_agree(self):
        for row in LONG_ROWS + [[1] * 10, [2] * 10, [12] * 9 + [0]]:
            for to in range(121):
                self.assertEqual(counted(row, to=to), counted_by_offsets(row, to=to))
            # All offsets of all sizes stand in some joined size.
            every = sum((to + 1) * counted(row, to=to) for to in range(121))
            product = 1
            for size in row:
                product *= size + 1
            self.assertEqual(every, product)
        for to in range(0, 11, 2):
            half = (10 - to) // 2
            self.assertEqual(counted([1] * 10, to=to), comb(10, half) - (comb(10, half - 1) if half else 0))

    def test_places_next_to_the_ends_and_within(self):
        luck = random.Random(81)
        for row in LONG_ROWS:
            for to in [sum(row) % 2, sum(row) % 2 + 10, sum(row) % 2 + 36]:
                many = counted(row, to=to)
                self.assertGreater(many, 2000)
                places = [0, 1, 2, many // 2, many - 2, many - 1] + [luck.randrange(many) for k in range(12)]
                told = [label_at(row, place, to=to) for place in places]
                for place, label in zip(places, told):
                    self.assertEqual(place_of(row, label, to=to), place)
                    self.assertEqual(label[-1], to)
                    self.assertEqual(len(label), len(row) - 1)
                    far = [row[0], *label]
                    self.assertTrue(all(joins(far[k], size, far[k + 1]) for k, size in enumerate(row[1:])))
                rising = [label for place, label in sorted(zip(places, told))]
                self.assertEqual(rising, sorted(told))
                for wrong in (many, many + 1, -1, LONG):
                    refused(self, NoPlace, label_at, row, wrong, to=to)

    def test_two_thousand(self):
        for row, to, many in [([1, 10, 0, 8, 11, 9, 1, 8], 18, 1999), ([4, 11, 4, 10, 12, 11], 10, 2000),
                              ([4, 12, 12, 6, 12, 11], 29, 2000)]:
            told = labels(row, to=to)
            self.assertEqual(len(told), many)
            self.assertEqual(told, sorted(set(told)))
            self.assertEqual([label_at(row, place, to=to) for place in range(0, many, 97)], told[::97])
            self.assertEqual(told[-1], label_at(row, many - 1, to=to))
        for row, to in [([12, 0, 1, 2, 10, 7, 10, 4], 14), ([7, 7, 8, 3, 1, 8, 8], 18), ([12] * 10, 20), ([11] * 10, 0)]:
            self.assertGreater(counted(row, to=to), 2000)
            refused(self, TooWide, labels, row, to=to)


class Refused(unittest.TestCase):
    works = [counted, counted_by_offsets, labels]
    placed = [label_at, place_of]

    def test_no_row_goes_first(self):
        for row in WRONG_ROWS:
            for to in (0, 2, None, True, -1, 121, "2"):
                for work in self.works:
                    refused(self, NoRow, work, row, to=to)
                for work in self.placed:
                    for thing in (0, None, -1, (), (2,)):
                        refused(self, NoRow, work, row, thing, to=to)

    def test_then_no_size(self):
        for to in WRONG_ENDS:
            for row in ([1, 1], [0], [12] * 10):
                for work in self.works:
                    refused(self, NoSize, work, row, to=to)
                for work in self.placed:
                    for thing in (0, None, -1, (), (2,), True):
                        refused(self, NoSize, work, row, thing, to=to)
        for to in (0, 120):
            self.assertGreater(counted([12] * 10, to=to), 0)

    def test_then_no_place(self):
        for thing in [*NOT_WHOLE, -1, 2, 3, LONG, -LONG]:
            refused(self, NoPlace, label_at, [1, 1, 1], thing, to=1)
        self.assertEqual(label_at([1, 1, 1], 1, to=1), (2, 1))
        for thing in [*NOT_WHOLE, 0, 1, (1, 1), (0, 3), (2, 3), (0, 0), (0, 2), (0,), (0, 1, 1), [0, 1], (False, 1),
                      (0, True), (None, 1), ("0", 1), ((0,), 1), ([0], 1), ({}, 1), (-2, 1), (4, 1), LONG, (LONG, 1)]:
            refused(self, NoPlace, place_of, [1, 1, 1], thing, to=1)
        self.assertEqual(place_of([1, 1, 1], (0, 1), to=1), 0)
        refused(self, NoPlace, place_of, [1, 1, 1], (2, 3), to=1)
        self.assertEqual(place_of([1, 1, 1], (2, 3), to=3), 0)
        # From 4 the end can be reached, but 1 and 1 don't join to 4.
        for wrong in [(4, 2), (6, 2), (0, 2)]:
            refused(self, NoPlace, place_of, [1, 1, 4], wrong, to=2)
        self.assertEqual(place_of([1, 1, 4], (2, 2), to=2), 0)
        refused(self, NoPlace, place_of, [1, 1], (0,), to=2)
        refused(self, NoPlace, label_at, [1, 1], 0, to=1)

    def test_sizes_to_120_on_the_way(self):
        self.assertEqual(place_of([12] * 10, tuple(range(24, 121, 12)), to=120), 0)
        self.assertEqual(labels([12] * 10, to=118)[-1][-2:], (108, 118))

    def test_what_is_handed_in_stays_and_what_is_told_is_the_askers_own(self):
        row = [2, 2, 2]
        told = labels(row, to=2)
        told.append(None)
        self.assertEqual(len(labels(row, to=2)), 3)
        for work in self.works:
            work(row, to=2)
        label_at(row, 1, to=2)
        place_of(row, (2, 2), to=2)
        self.assertEqual(row, [2, 2, 2])


if __name__ == "__main__":
    unittest.main()
