"""Promise 9: three, square_of, of_square."""

import random
import unittest
from itertools import permutations, product

from tests.plain import NOT_WHOLE
from tests.told import LONG, NOT_OFFSETS, NOT_PAIRS, all_offsets, joins, refused, squared, told_three, triples_to
from turncouple.errors import NoOffset, NoSize, NoTriple
from turncouple.numbers import Exact, exact, over, times
from turncouple.threes import alike_threes, least_three, of_square, square_of, three, why_three
from turncouple.turns import joined

SMALL = triples_to(4)


def wide_triples(seed, many):
    luck = random.Random(seed)
    found = []
    while len(found) < many:
        sizes = [luck.randint(15, 40) for k in range(3)]
        u, v = [luck.randrange(-size, size + 1, 2) for size in sizes[:2]]
        if joins(*sizes) and abs(u + v) <= sizes[2]:
            found.append(tuple(zip(sizes, (u, v, -u - v))))
    return found


WIDE = wide_triples(3, 100) + [((40, 0), (40, 0), (40, 0)), ((40, 40), (40, -40), (40, 0)), ((40, 2), (40, -2), (0, 0))]


class Three(unittest.TestCase):
    def test_known_ones(self):
        for triple, due in [
            (((0, 0), (0, 0), (0, 0)), "1"), (((1, 1), (1, -1), (0, 0)), "1/2*r2"),
            (((1, -1), (1, 1), (0, 0)), "-1/2*r2"), (((2, 0), (2, 0), (0, 0)), "-1/3*r3"),
            (((2, 2), (2, -2), (0, 0)), "1/3*r3"), (((2, 0), (2, 0), (2, 0)), "0"),
            (((2, 2), (2, -2), (2, 0)), "1/6*r6"), (((2, 0), (2, 0), (4, 0)), "1/15*r30"),
            (((1, 1), (1, 1), (2, -2)), "-1/3*r3"), (((4, 0), (4, 0), (4, 0)), "-1/35*r70"),
            (((2, 2), (2, 2), (2, 2)), "0"), (((1, 1), (1, 1), (1, 1)), "0"), (((1, 1), (2, 0), (1, 1)), "0"),
        ]:
            self.assertEqual(str(three(*triple)), due, triple)
            self.assertIsInstance(three(*triple), Exact)

    def test_all_small_ones_by_the_told_sum(self):
        for sizes in product(range(5), repeat=3):
            for offsets in all_offsets(*sizes):
                triple = tuple(zip(sizes, offsets))
                self.assertEqual(squared(three(*triple)), told_three(*triple), triple)

    def test_against_joined(self):
        for (a, u), (b, v), (c, w) in SMALL + WIDE:
            number = over(joined((a, u), (b, v), to=(c, -w)), exact(1, root=c + 1))
            self.assertEqual(three((a, u), (b, v), (c, w)), times(number, exact((-1) ** ((a - b - w) // 2 % 2))))

    def test_two_exchanged_and_the_other_sign(self):
        for triple in SMALL + WIDE:
            told = three(*triple)
            mark = exact((-1) ** (sum(size for size, offset in triple) // 2))
            one, other, third = triple
            for exchanged in [(other, one, third), (one, third, other), (third, other, one),
                              tuple((size, -offset) for size, offset in triple)]:
                self.assertEqual(three(*exchanged), times(told, mark))
            self.assertEqual(three(other, third, one), told)
            self.assertEqual(three(third, one, other), told)


class Squares(unittest.TestCase):
    def test_a_square(self):
        self.assertEqual(square_of((6, 2), (4, 0), (4, -2)), ((1, 3, 3), (2, 2, 3), (4, 2, 1)))
        self.assertEqual(square_of((0, 0), (0, 0), (0, 0)), ((0, 0, 0), (0, 0, 0), (0, 0, 0)))
        self.assertEqual(square_of((1, 1), (2, -2), (1, 1)), ((1, 0, 1), (0, 2, 0), (1, 0, 1)))

    def test_rows_as_told_and_read_back(self):
        for triple in SMALL + WIDE:
            (a, u), (b, v), (c, w) = triple
            square = square_of(*triple)
            self.assertEqual(square, (((b + c - a) // 2, (c + a - b) // 2, (a + b - c) // 2),
                                      ((a - u) // 2, (b - v) // 2, (c - w) // 2),
                                      ((a + u) // 2, (b + v) // 2, (c + w) // 2)))
            self.assertEqual({sum(line) for line in [*square, *zip(*square)]}, {(a + b + c) // 2})
            self.assertEqual(of_square(square), triple)

    def test_all_squares_of_a_small_sum(self):
        found = 0
        for numbers in product(range(4), repeat=4):
            for whole in range(4):
                (p, q), (r, s) = numbers[:2], numbers[2:]
                square = ((p, q, whole - p - q), (r, s, whole - r - s),
                          (whole - p - r, whole - q - s, p + q + r + s - whole))
                if min(min(row) for row in square) >= 0:
                    found += 1
                    self.assertEqual(square_of(*of_square(square)), square)
                else:
                    refused(self, NoTriple, of_square, square)
        self.assertGreater(found, 70)

    def test_kinds(self):
        told = of_square(((1, 3, 3), (2, 2, 3), (4, 2, 1)))
        self.assertEqual(told, ((6, 2), (4, 0), (4, -2)))
        self.assertIs(type(told), tuple)
        for row in square_of(*told):
            self.assertIs(type(row), tuple)

    def test_sizes_to_40(self):
        self.assertEqual(of_square(((0, 0, 40), (40, 0, 0), (0, 40, 0))), ((40, -40), (40, 40), (0, 0)))
        self.assertEqual(of_square(((20, 20, 20), (20, 20, 20), (20, 20, 20))), ((40, 0), (40, 0), (40, 0)))
        for square in [((0, 0, 41), (41, 0, 0), (0, 41, 0)), ((0, 41, 0), (0, 0, 41), (41, 0, 0)),
                       ((41, 0, 0), (0, 41, 0), (0, 0, 41)), ((20, 20, 21), (21, 20, 20), (20, 21, 20)),
                       ((0, 1, 40), (1, 40, 0), (40, 0, 1)), ((21, 21, 21),) * 3, ((LONG, LONG, LONG),) * 3]:
            refused(self, NoTriple, of_square, square)
            refused(self, NoTriple, of_square, tuple(zip(*square)))


class RefusedSquares(unittest.TestCase):
    good = ((1, 3, 3), (2, 2, 3), (4, 2, 1))

    def test_what_is_no_tuple_of_three_tuples_of_three(self):
        rows = list(self.good)
        for thing in [*NOT_WHOLE, 0, 1, LONG, rows, [list(row) for row in rows], tuple(list(row) for row in rows),
                      self.good[:2], (*self.good, (0, 0, 0)), (1, 2, 3), ((1, 3), (2, 2), (4, 2)), {1: self.good},
                      tuple((*row, 0) for row in rows), (self.good,), (self.good, self.good, self.good),
                      ("133", "223", "421")]:
            refused(self, NoTriple, of_square, thing)
        for at in range(3):
            for thing in [None, [1, 3, 3], (1, 3), (1, 3, 3, 0), 7, True, "133", {}, ()]:
                refused(self, NoTriple, of_square, tuple(thing if k == at else row for k, row in enumerate(rows)))
        self.assertEqual(of_square(self.good), ((6, 2), (4, 0), (4, -2)))

    def test_what_is_no_whole_number_from_0_on(self):
        ones = ((1, 0, 0), (0, 1, 0), (0, 0, 1))
        self.assertEqual(of_square(ones), ((0, 0), (1, -1), (1, 1)))
        for i, j in product(range(3), repeat=2):
            for thing in [*NOT_WHOLE, -1, -LONG]:
                square = [list(row) for row in ones]
                square[i][j] = thing
                refused(self, NoTriple, of_square, tuple(tuple(row) for row in square))
            square = [list(row) for row in ones]
            square[i][j] = bool(square[i][j])
            refused(self, NoTriple, of_square, tuple(tuple(row) for row in square))
        # All sums are one here, but a number is below 0.
        refused(self, NoTriple, of_square, ((-1, 2, 2), (2, -1, 2), (2, 2, -1)))
        refused(self, NoTriple, of_square, ((1, -1, 0), (-1, 1, 0), (0, 0, 0)))

    def test_unlike_sums(self):
        for i, j in product(range(3), repeat=2):
            for more in (1, -1, 5):
                square = [list(row) for row in self.good]
                square[i][j] += more
                refused(self, NoTriple, of_square, tuple(tuple(row) for row in square))
        # The rows alone, the columns alone have one sum.
        refused(self, NoTriple, of_square, ((1, 2, 0), (1, 2, 0), (1, 2, 0)))
        refused(self, NoTriple, of_square, ((1, 1, 1), (2, 2, 2), (0, 0, 0)))

    def test_pairs_without_a_square(self):
        for triple in [((1, 1), (1, 1), (1, 1)), ((2, 0), (2, 0), (6, 0)), ((2, 0), (0, 0), (0, 0)),
                       ((2, 2), (2, 0), (2, 0)), ((2, 2), (2, -2), (2, 2)), ((40, 40), (40, 40), (40, 40)),
                       ((40, 0), (1, 1), (38, 0)), ((1, 1), (2, 0), (2, 0))]:
            refused(self, NoTriple, square_of, *triple)
            refused(self, NoTriple, least_three, *triple)
            self.assertEqual(three(*triple), exact(0))


class RefusedPairs(unittest.TestCase):
    works = (three, square_of, least_three, why_three)

    def test_what_is_no_pair_or_has_no_size(self):
        for work in self.works:
            for thing in NOT_PAIRS:
                refused(self, NoSize, work, thing, (2, 0), (2, 0))
                refused(self, NoSize, work, (2, 0), thing, (2, 0))
                refused(self, NoSize, work, (2, 0), (2, 0), thing)
                refused(self, NoSize, work, thing, thing, thing)

    def test_what_is_no_offset(self):
        for work in self.works:
            for thing in NOT_OFFSETS:
                for sizes in [(2, 2, 2), (2, 2, 6), (2, 1, 2)]:
                    for at in range(3):
                        if sizes[at] == 2:
                            pairs = [(size, size) for size in sizes]
                            pairs[at] = (2, thing)
                            refused(self, NoOffset, work, *pairs)

    def test_no_size_ahead_of_no_offset_ahead_of_no_triple(self):
        for work in self.works:
            for things in permutations([(2, 1), (41, 1), (2, 0)]):
                refused(self, NoSize, work, *things)
            for things in permutations([(2, None), None, (8, 0)]):
                refused(self, NoSize, work, *things)
            for things in permutations([(2, 1), (2, 0), (8, 0)]):
                refused(self, NoOffset, work, *things)

    def test_all_are_handed_in_by_place(self):
        for work in self.works:
            with self.assertRaises(TypeError):
                work((2, 0), (2, 0))
        with self.assertRaises(TypeError):
            alike_threes(((0, 0), (0, 0), (0, 0)))


if __name__ == "__main__":
    unittest.main()
