"""Promise 8: joined and ladder."""

import random
import unittest
from itertools import product

from tests.told import NOT_OFFSETS, NOT_PAIRS, NOT_SIZES, all_offsets, joins, offsets_of, refused, squared, told_joined
from turncouple.errors import NoOffset, NoSize
from turncouple.numbers import Exact, exact, plus, times
from turncouple.turns import joined, ladder


def some_pairs(seed, many, lowest, highest):
    """Some triples of pairs that may be joined and add up, the same for one seed."""
    luck = random.Random(seed)
    found = []
    while len(found) < many:
        a, b, c = [luck.randint(lowest, highest) for k in range(3)]
        if joins(a, b, c):
            u, v = luck.choice(offsets_of(a)), luck.choice(offsets_of(b))
            if abs(u + v) <= c:
                found.append(((a, u), (b, v), (c, u + v)))
    return found


WIDE = some_pairs(1, 300, 20, 40)
EDGES = [
    ((40, 40), (40, -40), (40, 0)), ((40, 0), (40, 0), (40, 0)), ((40, 40), (40, 0), (40, 40)),
    ((40, 40), (0, 0), (40, 40)), ((0, 0), (40, -40), (40, -40)), ((40, 2), (40, -2), (0, 0)),
    ((39, 1), (1, -1), (40, 0)), ((40, -38), (40, 36), (2, -2)), ((20, 20), (20, 20), (40, 40)),
    ((20, -20), (20, -20), (40, -40)), ((40, 38), (39, -39), (1, -1)), ((39, -1), (39, 1), (40, 0)),
]


class Values(unittest.TestCase):
    def test_known_ones(self):
        for one, other, to, due in [
            ((0, 0), (0, 0), (0, 0), "1"), ((1, 1), (1, 1), (2, 2), "1"), ((1, 1), (1, -1), (2, 0), "1/2*r2"),
            ((1, -1), (1, 1), (2, 0), "1/2*r2"), ((1, 1), (1, -1), (0, 0), "1/2*r2"),
            ((1, -1), (1, 1), (0, 0), "-1/2*r2"), ((1, -1), (1, -1), (2, -2), "1"),
            ((2, 0), (1, 1), (3, 1), "1/3*r6"), ((2, 2), (1, -1), (3, 1), "1/3*r3"),
            ((2, 2), (1, -1), (1, 1), "1/3*r6"), ((2, 0), (1, 1), (1, 1), "-1/3*r3"),
            ((2, 0), (2, 0), (2, 0), "0"), ((2, 2), (2, -2), (2, 0), "1/2*r2"), ((2, 0), (2, 0), (0, 0), "-1/3*r3"),
            ((2, 0), (2, 0), (4, 0), "1/3*r6"), ((4, 2), (2, 0), (4, 2), "1/6*r6"), ((6, 6), (0, 0), (6, 6), "1"),
        ]:
            for work in (joined, ladder):
                self.assertEqual(str(work(one, other, to=to)), due, (one, other, to))
                self.assertIsInstance(work(one, other, to=to), Exact)

    def test_all_small_ones_by_the_told_sum(self):
        for a, b, c in product(range(6), range(6), range(11)):
            for u, v, w in all_offsets(a, b, c):
                due = told_joined((a, u), (b, v), (c, w))
                self.assertEqual(squared(joined((a, u), (b, v), to=(c, w))), due, (a, u, b, v, c, w))

    def test_all_small_ones_by_the_ladder(self):
        for a, b, c in product(range(5), range(5), range(9)):
            for u, v, w in all_offsets(a, b, c):
                told = ladder((a, u), (b, v), to=(c, w))
                self.assertEqual(told, joined((a, u), (b, v), to=(c, w)), (a, u, b, v, c, w))

    def test_sizes_to_40(self):
        for one, other, to in WIDE + EDGES:
            self.assertEqual(squared(joined(one, other, to=to)), told_joined(one, other, to))

    def test_sizes_to_40_by_the_ladder(self):
        for one, other, to in WIDE[:60] + EDGES:
            self.assertEqual(ladder(one, other, to=to), joined(one, other, to=to))

    def test_the_first_number_of_the_ladder_is_above_nought(self):
        for a, b in product(range(0, 41, 3), range(0, 41, 4)):
            for c in range(abs(a - b), min(a + b, 40) + 1, 8):
                for work in (joined, ladder):
                    self.assertGreater(squared(work((a, a), (b, c - a), to=(c, c))), 0)


class Nought(unittest.TestCase):
    def test_offsets_that_do_not_add_up(self):
        for one, other, to in [((2, 2), (2, 0), (4, 0)), ((2, 2), (2, 0), (4, 4)), ((2, 2), (2, 0), (4, -2)),
                               ((40, 0), (40, 2), (40, 0)), ((1, 1), (1, 1), (0, 0))]:
            for work in (joined, ladder):
                self.assertEqual(work(one, other, to=to).parts, ())
                self.assertEqual(str(work(one, other, to=to)), "0")

    def test_sizes_that_may_not_be_joined(self):
        for one, other, to in [((1, 1), (1, 1), (1, 1)), ((2, 2), (2, 2), (6, 4)), ((0, 0), (0, 0), (2, 0)),
                               ((6, 0), (2, 0), (2, 0)), ((2, 0), (6, 0), (2, 0)), ((40, 0), (1, 1), (1, 1)),
                               ((3, 1), (0, 0), (1, 1)), ((40, 2), (38, 0), (0, 0)), ((2, 0), (1, 1), (2, 2))]:
            for work in (joined, ladder):
                self.assertEqual(work(one, other, to=to).parts, ())
                self.assertEqual(str(work(one, other, to=to)), "0")


class Symmetry(unittest.TestCase):
    def test_the_two_exchanged_and_all_turned_about(self):
        small = [((a, u), (b, v), (c, u + v)) for a, b, c in product(range(5), repeat=3)
                 for u, v in all_offsets(a, b) if abs(u + v) <= c and joins(a, b, c)]
        for (a, u), (b, v), (c, w) in small + WIDE + EDGES:
            told = joined((a, u), (b, v), to=(c, w))
            due = times(told, exact((-1) ** ((a + b - c) // 2)))
            self.assertEqual(joined((b, v), (a, u), to=(c, w)), due)
            self.assertEqual(joined((a, -u), (b, -v), to=(c, -w)), due)


class Steps(unittest.TestCase):
    def test_steps_down_and_up(self):
        # The number at w - 2, and at w + 2, by its two neighbours at w.
        for a, b, c in [(1, 1, 2), (2, 2, 2), (3, 2, 5), (4, 3, 1), (6, 5, 7), (5, 5, 0), (40, 38, 30)]:
            for down in (1, -1):
                for w in range(-c, c + 1, 2):
                    for u in offsets_of(a):
                        v = w - 2 * down - u
                        if abs(v) <= b and abs(w - 2 * down) <= c:
                            self.one_step((a, b, c), (u, v, w), down)

    def one_step(self, sizes, places, down):
        (a, b, c), (u, v, w) = sizes, places
        for work in (joined, ladder) if max(sizes) < 10 else (joined,):
            left = times(exact(1, root=(c + down * w) * (c - down * w + 2)), work((a, u), (b, v), to=(c, w - 2 * down)))
            right = exact(0)
            if abs(u + 2 * down) <= a:
                number = work((a, u + 2 * down), (b, v), to=(c, w))
                right = plus(right, times(exact(1, root=(a + down * u + 2) * (a - down * u)), number))
            if abs(v + 2 * down) <= b:
                number = work((a, u), (b, v + 2 * down), to=(c, w))
                right = plus(right, times(exact(1, root=(b + down * v + 2) * (b - down * v)), number))
            self.assertEqual(left, right)


class Refused(unittest.TestCase):
    def test_what_is_no_pair_or_has_no_size(self):
        for work in (joined, ladder):
            for thing in [*NOT_PAIRS, *[(size, 0) for size in NOT_SIZES]]:
                before = repr(thing) if len(str(thing)) < 1000 else None
                refused(self, NoSize, work, thing, (2, 0), to=(2, 0))
                refused(self, NoSize, work, (2, 0), thing, to=(2, 0))
                refused(self, NoSize, work, (2, 0), (2, 0), to=thing)
                refused(self, NoSize, work, thing, thing, to=(2, 0))
                refused(self, NoSize, work, (1, 1), thing, to=thing)
                if before is not None:
                    self.assertEqual(repr(thing), before)

    def test_what_is_no_offset(self):
        for work in (joined, ladder):
            for thing in NOT_OFFSETS:
                refused(self, NoOffset, work, (2, thing), (2, 0), to=(2, 0))
                refused(self, NoOffset, work, (2, 0), (2, thing), to=(2, 0))
                refused(self, NoOffset, work, (2, 0), (2, 0), to=(2, thing))
                refused(self, NoOffset, work, (2, thing), (2, thing), to=(2, thing))
                # These may not be joined, and are refused all the same.
                refused(self, NoOffset, work, (2, 0), (2, thing), to=(6, 0))
                refused(self, NoOffset, work, (1, 1), (2, 0), to=(2, thing))
            for size, offset in [(0, 1), (0, 2), (0, -2), (1, 0), (1, 2), (1, 3), (40, 41), (40, 42), (40, 39)]:
                refused(self, NoOffset, work, (size, offset), (size, -size), to=(0, 0))

    def test_no_size_ahead_of_no_offset(self):
        for work in (joined, ladder):
            for thing in NOT_PAIRS:
                for wrong in (1, 4, None, "0", True):
                    refused(self, NoSize, work, (2, wrong), thing, to=(2, 0))
                    refused(self, NoSize, work, (2, wrong), (2, 0), to=thing)
                    refused(self, NoSize, work, thing, (2, wrong), to=(2, 0))
                    refused(self, NoSize, work, (2, 0), (2, wrong), to=thing)
                    refused(self, NoSize, work, thing, (2, 0), to=(2, wrong))
                    refused(self, NoSize, work, (2, 0), thing, to=(2, wrong))

    def test_a_pair_with_both_wrong_is_refused_for_its_size(self):
        for work in (joined, ladder):
            refused(self, NoSize, work, (41, 0), (2, 0), to=(2, 0))
            refused(self, NoSize, work, (2, 0), (-1, 0), to=(2, 0))
            refused(self, NoSize, work, (2, 0), (2, 0), to=(None, None))

    def test_to_is_handed_in_by_its_name(self):
        for work in (joined, ladder):
            with self.assertRaises(TypeError):
                work((1, 1), (1, 1), (2, 2))
            with self.assertRaises(TypeError):
                work((1, 1), (1, 1))
            self.assertEqual(work((1, 1), (1, 1), to=(2, 2)), exact(1))


if __name__ == "__main__":
    unittest.main()
