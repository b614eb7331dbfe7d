"""Promises 12 and 13: six, six_by_threes, forms_of, alike_sixes, why_six."""

import random
import unittest
from itertools import permutations, product

from tests.plain import NOT_WHOLE
from tests.told import LONG, NOT_SIZES, joins, refused, six_terms, squared, told_six, triangles
from turncouple.errors import NoSize, NoTriple, TooWide
from turncouple.numbers import Exact, exact, sign
from turncouple.sixes import alike_sixes, forms_of, six, six_by_threes, why_six


def may_be(sizes):
    return all(joins(*triangle) for triangle in triangles(sizes))


SMALL = list(product(range(4), repeat=6))
MAY_BE = [sizes for sizes in SMALL if may_be(sizes)]


def wide_sixes(seed, many, lowest, highest):
    luck = random.Random(seed)
    found = []
    while len(found) < many:
        sizes = tuple(luck.randint(lowest, highest) for k in range(6))
        if may_be(sizes):
            found.append(sizes)
    return found


WIDE = wide_sixes(1, 120, 12, 40)
WIDE += [(40,) * 6, (40, 40, 0, 40, 40, 0), (39, 39, 40, 39, 39, 40), (20, 20, 40, 20, 20, 40)]


def column_symmetries(sizes):
    """All orders of the columns, upper and lower exchanged in none or two of them."""
    a, b, c, d, e, f = sizes
    for columns in permutations([(a, d), (b, e), (c, f)]):
        for turned in [(), (0, 1), (0, 2), (1, 2)]:
            chosen = [column[::-1] if at in turned else column for at, column in enumerate(columns)]
            yield tuple(column[0] for column in chosen) + tuple(column[1] for column in chosen)


def beyond(sizes):
    """One of the symmetries that keep the form, but not the columns: b, c, e, f taken from half their sum."""
    a, b, c, d, e, f = sizes
    half = (b + c + e + f) // 2
    return a, half - b, half - c, d, half - e, half - f


class Values(unittest.TestCase):
    def test_known_ones(self):
        for sizes, due in [
            ((0,) * 6, "1"), ((2,) * 6, "1/6"), ((4,) * 6, "-3/70"), ((1, 1, 0, 1, 1, 0), "-1/2"),
            ((1, 1, 2, 1, 1, 0), "1/2"), ((1, 1, 2, 1, 1, 2), "1/6"), ((2, 2, 0, 2, 2, 0), "1/3"),
            ((2, 2, 2, 2, 2, 0), "-1/3"), ((2, 2, 2, 1, 1, 1), "-1/3"), ((4, 4, 4, 3, 3, 3), "0"),
            ((2, 2, 2, 2, 2, 4), "1/6"), ((2, 2, 4, 2, 2, 4), "1/30"), ((1, 1, 1, 1, 1, 1), "0"),
            ((2, 2, 6, 2, 2, 2), "0"),
        ]:
            self.assertEqual(squared(six(*sizes)), told_six(sizes), sizes)
            self.assertEqual(str(six(*sizes)), due, sizes)
            self.assertIsInstance(six(*sizes), Exact)

    def test_with_a_size_of_nought(self):
        for a, b, c in [(0, 0, 0), (1, 1, 2), (2, 3, 5), (4, 4, 4), (12, 7, 9), (40, 40, 40), (40, 1, 39)]:
            root = exact((-1) ** ((a + b + c) // 2), bottom=(b + 1) * (c + 1), root=(b + 1) * (c + 1))
            self.assertEqual(six(a, b, c, 0, c, b), root)

    def test_all_small_ones_by_the_told_sum(self):
        for sizes in SMALL:
            self.assertEqual(squared(six(*sizes)), told_six(sizes), sizes)

    def test_sizes_to_40(self):
        for sizes in WIDE:
            self.assertEqual(squared(six(*sizes)), told_six(sizes), sizes)

    def test_each_triangle_counts(self):
        for k in range(4):
            found = [sizes for sizes in SMALL if [joins(*triangle) for triangle in triangles(sizes)].count(False) == 1
                     and not joins(*triangles(sizes)[k])]
            self.assertGreater(len(found), 0)
            for sizes in found:
                self.assertEqual(six(*sizes), exact(0))
                self.assertEqual(why_six(*sizes), ("triangle", k))


class ByThrees(unittest.TestCase):
    def test_both_sums_agree(self):
        for sizes in MAY_BE:
            self.assertEqual(six_by_threes(*sizes), six(*sizes), sizes)
        for sizes in SMALL[::5]:
            self.assertEqual(six_by_threes(*sizes), six(*sizes), sizes)

    def test_sizes_to_6(self):
        for sizes in wide_sixes(2, 60, 0, 6) + [(6,) * 6, (6, 6, 0, 6, 6, 0), (5, 5, 6, 5, 5, 6), (6, 4, 2, 4, 6, 4)]:
            self.assertEqual(six_by_threes(*sizes), six(*sizes), sizes)

    def test_too_wide_behind_no_size(self):
        for at in range(6):
            for high in (7, 8, 40):
                sizes = [2] * 6
                sizes[at] = high
                refused(self, TooWide, six_by_threes, *sizes)
            for other in range(6):
                if other != at:
                    for thing in NOT_SIZES:
                        sizes = [2] * 6
                        sizes[at], sizes[other] = 7, thing
                        refused(self, NoSize, six_by_threes, *sizes)
        refused(self, TooWide, six_by_threes, *[7] * 6)


class Symmetry(unittest.TestCase):
    def test_columns(self):
        for sizes in MAY_BE[::3] + WIDE[:25] + [(3, 4, 5, 6, 7, 2)]:
            told = six(*sizes)
            for other in column_symmetries(sizes):
                self.assertEqual(six(*other), told)
                if may_be(sizes):
                    self.assertEqual(forms_of(*other), forms_of(*sizes))
                    self.assertIs(alike_sixes(sizes, other), True)

    def test_upper_and_lower_of_one_column_alone_is_mostly_another_six(self):
        unlike = 0
        for a, b, c, d, e, f in MAY_BE + WIDE:
            if may_be((d, b, c, a, e, f)) and not alike_sixes((a, b, c, d, e, f), (d, b, c, a, e, f)):
                unlike += six(a, b, c, d, e, f) != six(d, b, c, a, e, f)
        self.assertGreater(unlike, 0)

    def test_beyond_columns(self):
        seen = 0
        for sizes in MAY_BE + WIDE:
            other = beyond(sizes)
            if max(other) <= 40:
                self.assertEqual(forms_of(*other), forms_of(*sizes))
                self.assertEqual(six(*other), six(*sizes))
                self.assertIs(alike_sixes(other, sizes), True)
                seen += sorted(other) != sorted(sizes)
        self.assertGreater(seen, 20)
        self.assertIs(alike_sixes((2, 2, 2, 2, 2, 4), beyond((2, 2, 2, 2, 2, 4))), True)
        self.assertEqual(sorted(beyond((2, 2, 2, 2, 2, 4))), [1, 2, 2, 3, 3, 3])

    def test_one_form_is_one_number(self):
        numbers = {}
        for sizes in MAY_BE:
            self.assertEqual(numbers.setdefault(forms_of(*sizes), six(*sizes)), six(*sizes))


class Forms(unittest.TestCase):
    def test_some(self):
        self.assertEqual(forms_of(0, 0, 0, 0, 0, 0), ((0, 0, 0, 0), (0, 0, 0)))
        self.assertEqual(forms_of(2, 2, 2, 2, 2, 4), ((3, 3, 4, 4), (4, 5, 5)))
        self.assertEqual(forms_of(40, 40, 40, 40, 40, 40), ((60,) * 4, (80,) * 3))
        # a b c, a e f, d b f, d e c, and a b d e, b c e f, c a f d, all halved.
        self.assertEqual(forms_of(2, 3, 5, 6, 7, 7), (tuple(sorted([5, 8, 8, 9])), tuple(sorted([9, 11, 10]))))

    def test_all_small_ones(self):
        for a, b, c, d, e, f in MAY_BE:
            told = forms_of(a, b, c, d, e, f)
            three = sorted(sum(triangle) // 2 for triangle in triangles((a, b, c, d, e, f)))
            pairs = sorted([(a + b + d + e) // 2, (b + c + e + f) // 2, (c + a + f + d) // 2])
            self.assertEqual(told, (tuple(three), tuple(pairs)))
            self.assertEqual([type(part) for part in told], [tuple, tuple])

    def test_no_triple(self):
        for sizes in SMALL:
            if not may_be(sizes):
                refused(self, NoTriple, forms_of, *sizes)

    def test_alike_against_forms(self):
        luck = random.Random(3)
        seen = set()
        for at in range(1500):
            sizes, others = luck.choice(MAY_BE), luck.choice(MAY_BE)
            due = forms_of(*sizes) == forms_of(*others)
            self.assertIs(alike_sixes(sizes, others), due)
            seen.add(due)
        self.assertEqual(seen, {True, False})


class Refused(unittest.TestCase):
    good = (2, 2, 2, 2, 2, 2)
    open_ones = [(1, 2, 2, 2, 2, 2), (2, 2, 6, 2, 2, 2), (0, 0, 0, 1, 1, 2)]

    def test_what_is_no_size(self):
        for work in (six, six_by_threes, forms_of, why_six):
            for at in range(6):
                for thing in NOT_SIZES:
                    sizes = list(self.good)
                    sizes[at] = thing
                    refused(self, NoSize, work, *sizes)
                    # No triangle is looked at, nor how wide it is, where there is no size.
                    sizes[at - 1] = 40
                    refused(self, NoSize, work, *sizes)
                    sizes[at - 2] = 41
                    refused(self, NoSize, work, *sizes)
            self.assertRaises(TypeError, work, 2, 2, 2, 2, 2)

    def both_places(self, kind, thing):
        refused(self, kind, alike_sixes, thing, self.good)
        refused(self, kind, alike_sixes, self.good, thing)
        refused(self, kind, alike_sixes, thing, thing)

    def test_alike_sixes(self):
        for thing in [*NOT_WHOLE, 0, 6, LONG, list(self.good), self.good[:5], (*self.good, 2), "222222",
                      {k: k for k in range(6)}, (self.good,), ((2, 2, 2), (2, 2, 2))]:
            self.both_places(NoTriple, thing)
        for at in range(6):
            for thing in NOT_SIZES:
                sizes = list(self.open_ones[1])
                sizes[at] = thing
                self.both_places(NoSize, tuple(sizes))
        for sizes in self.open_ones:
            self.both_places(NoTriple, sizes)
        self.assertIs(alike_sixes(self.good, self.good), True)

    def test_all_of_the_first_ahead_of_the_second(self):
        wrong = [(NoTriple, None), (NoSize, (2, 2, 2, 2, 2, 41)), (NoTriple, (2, 2, 6, 2, 2, 2)), (NoSize, (None,) * 6),
                 (NoTriple, [2] * 6)]
        for (kind, sizes), (later, others) in product(wrong, repeat=2):
            refused(self, kind, alike_sixes, sizes, others)


class Why(unittest.TestCase):
    def check(self, sizes):
        told = why_six(*sizes)
        self.assertIs(type(told), tuple)
        ends = [joins(*triangle) for triangle in triangles(sizes)]
        if False in ends:
            self.assertEqual(told, ("triangle", ends.index(False)))
        elif told_six(sizes) == 0:
            due = [(term.numerator, term.denominator) for term in six_terms(sizes)]
            self.assertEqual(told, ("met", due))
            self.assertGreater(len(due), 1)
            self.assertEqual(sum(top for top, bottom in told[1]), 0)
        else:
            self.assertEqual(told, ("not", sign(six(*sizes))))
            self.assertEqual(told[1], 1 if told_six(sizes) > 0 else -1)
        self.assertEqual(six(*sizes) == exact(0), told[0] != "not")
        return told

    def test_each_reason(self):
        words = set()
        for sizes in SMALL + WIDE + wide_sixes(4, 400, 1, 9):
            told = self.check(sizes)
            words.add(told if told[0] != "met" else "met")
        ends = {("triangle", k) for k in range(4)}
        self.assertEqual(words, ends | {("not", 1), ("not", -1), "met"})

    def test_terms_that_meet(self):
        self.assertEqual(why_six(3, 3, 4, 4, 4, 3), ("met", [(5040, 1), (-5040, 1)]))
        self.assertEqual(why_six(2, 4, 4, 6, 4, 4), ("met", [(-10080, 1), (10080, 1)]))
        told = why_six(4, 4, 4, 3, 3, 3)
        self.assertEqual(told[0], "met")
        told[1].clear()
        self.assertNotEqual(why_six(4, 4, 4, 3, 3, 3)[1], [])

    def test_several_triangles(self):
        self.assertEqual(why_six(1, 1, 1, 1, 1, 1), ("triangle", 0))
        self.assertEqual(why_six(2, 2, 2, 2, 2, 1), ("triangle", 1))
        self.assertEqual(why_six(0, 2, 2, 6, 2, 2), ("triangle", 2))
        self.assertEqual(why_six(2, 2, 2, 2, 6, 4), ("triangle", 3))


if __name__ == "__main__":
    unittest.main()
