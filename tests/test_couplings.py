"""Promise 4, as far as it speaks of threes, sixes and nines: all ways lead to one number; tables are orthogonal."""

import random
import unittest
from itertools import product

from tests.test_threes import WIDE
from tests.told import all_offsets, joins, offsets_of, steps_done, together, total, triples_to
from turncouple.numbers import exact, over, times
from turncouple.powers import three_by_powers
from turncouple.sixes import nine, six
from turncouple.threes import alike_threes, least_three, of_square, square_of, three, why_three
from turncouple.turns import joined, ladder, sizes_of, table


def three_of(number, triple):
    """The three of the number by which the first two stand in the third."""
    (a, u), (b, v), (c, w) = triple
    return times(over(number, exact(1, root=c + 1)), exact((-1) ** ((a - b - w) // 2 % 2)))


class ThreesByAllWays(unittest.TestCase):
    def check(self, triple):
        one, other, (c, w) = triple
        told = three(*triple)
        self.assertEqual(three_of(joined(one, other, to=(c, -w)), triple), told)
        self.assertEqual(three_of(ladder(one, other, to=(c, -w)), triple), told)
        if sum(size for size, offset in triple) <= 24:
            self.assertEqual(three_by_powers(*triple), told)
        least, mark = least_three(*triple)
        if mark == 0:
            self.assertEqual(told, exact(0))
        elif max(p + q for p, q in zip(least[1], least[2])) <= 40:
            self.assertEqual(times(exact(mark), three(*of_square(least))), told)
            word, steps, factor = alike_threes(triple, of_square(least))
            self.assertEqual((word, factor), ("alike", mark))
            self.assertEqual(steps_done(square_of(*triple), steps), (least, mark))
        self.assertEqual(why_three(*triple)[0] == "not", told != exact(0))

    def test_small_ones(self):
        for triple in triples_to(5)[::3]:
            self.check(triple)

    def test_wide_ones(self):
        for triple in WIDE[::4]:
            self.check(triple)

    def test_by_a_table(self):
        for a, b in [(3, 2), (4, 4), (5, 1)]:
            told = table(a, b)
            for c in sizes_of(a, b):
                for u, v in all_offsets(a, b):
                    if abs(u + v) <= c:
                        triple = ((a, u), (b, v), (c, -u - v))
                        number = told.get(((c, u + v), (u, v)), exact(0))
                        self.assertEqual(three_of(number, triple), three(*triple))


class Sixes(unittest.TestCase):
    def test_orthogonal_both_ways(self):
        luck = random.Random(1)
        chosen = [tuple(luck.randint(0, 7) for k in range(4)) for at in range(25)]
        for a, b, d, e in chosen + [(2, 2, 2, 2), (1, 1, 1, 1), (18, 20, 19, 17), (20, 20, 20, 20)]:
            ups = [c for c in range(41) if joins(a, b, c) and joins(d, e, c)]
            downs = [f for f in range(41) if joins(a, e, f) and joins(d, b, f)]
            self.assertEqual(len(ups), len(downs))
            numbers = {(c, f): six(a, b, c, d, e, f) for c, f in product(ups, downs)}
            for f, g in product(downs[:6], downs[-3:]):
                held = total(together(c + 1, f + 1, numbers[c, f], numbers[c, g]) for c in ups)
                self.assertEqual(held, exact(1 if f == g else 0))
            for c, g in product(ups[:6], ups[-3:]):
                held = total(together(f + 1, c + 1, numbers[c, f], numbers[g, f]) for f in downs)
                self.assertEqual(held, exact(1 if c == g else 0))

    def test_the_sum_of_five(self):
        luck = random.Random(2)
        seen = 0
        while seen < 60:
            a, b, c, d, e, f = [luck.randint(0, 8) for k in range(6)]
            p, q, r = [luck.randint(0, 12) for k in range(3)]
            due = times(six(p, q, r, e, a, d), six(p, q, r, f, b, c))
            if due == exact(0) and luck.random() < 0.99:
                continue
            seen += due != exact(0)
            found = []
            for x in range(41):
                sixes = [six(a, b, x, c, d, p), six(c, d, x, e, f, q), six(e, f, x, b, a, r)]
                whole = a + b + c + d + e + f + p + q + r + x
                found.append(together((-1) ** (whole // 2) * (x + 1), *sixes))
            self.assertEqual(total(found), due)

    def test_a_three_times_a_six_is_a_sum_of_three_threes(self):
        luck = random.Random(3)
        unlike_nought = 0
        for at in range(60):
            a, b, c = luck.choice([(2, 2, 2), (1, 2, 3), (4, 3, 3), (2, 4, 2), (3, 1, 4), (4, 4, 2)])
            d, e, f = [luck.randint(0, 3) for k in range(3)]
            u, v = luck.choice(offsets_of(a)), luck.choice(offsets_of(b))
            if abs(u + v) > c:
                continue
            w = -u - v
            found = []
            for x, y, z in all_offsets(d, e, f):
                if u + y == z and v + z == x:
                    threes = [three((a, u), (e, y), (f, -z)), three((d, -x), (b, v), (f, z)),
                              three((d, x), (e, -y), (c, w))]
                    found.append(together((-1) ** ((d + e + f + x + y + z) // 2), *threes))
            due = times(three((a, u), (b, v), (c, w)), six(a, b, c, d, e, f))
            self.assertEqual(total(found), due)
            unlike_nought += due != exact(0)
        self.assertGreater(unlike_nought, 3)


class Nines(unittest.TestCase):
    def test_orthogonal_both_ways(self):
        for a, b, d, e, i in [(1, 1, 1, 1, 0), (1, 1, 1, 1, 2), (1, 2, 3, 2, 4), (2, 2, 2, 2, 2),
                              (3, 1, 2, 4, 4), (4, 3, 5, 2, 6)]:
            rights = [(c, f) for c in sizes_of(a, b) for f in sizes_of(d, e) if joins(c, f, i)]
            belows = [(g, h) for g in sizes_of(a, d) for h in sizes_of(b, e) if joins(g, h, i)]
            self.assertEqual(len(rights), len(belows))
            rows = [[self.number((a, b, d, e, i), right, below) for below in belows] for right in rights]
            for table_of in (rows, list(zip(*rows))):
                for at, row in enumerate(table_of):
                    for place, other in enumerate(table_of):
                        held = total(times(one, two) for one, two in zip(row, other))
                        self.assertEqual(held, exact(1 if at == place else 0))

    def number(self, sizes, right, below):
        (a, b, d, e, i), (c, f), (g, h) = sizes, right, below
        roots = [exact(1, root=size + 1) for size in (c, f, g, h)]
        return together(*roots, nine(((a, b, c), (d, e, f), (g, h, i))))

    def test_by_four_joined(self):
        # Two ways of joining four turns, by the plain sum over all offsets.
        for a, b, d, e in [(1, 1, 1, 1), (1, 2, 1, 2), (2, 1, 3, 2)]:
            ends = [(c, f, g, h, i) for c in sizes_of(a, b) for f in sizes_of(d, e) for g in sizes_of(a, d)
                    for h in sizes_of(b, e) for i in sizes_of(c, f) if joins(g, h, i)]
            for c, f, g, h, i in ends[::3]:
                found = []
                for u, v, x, y in all_offsets(a, b, d, e):
                    if u + v + x + y == i and max(abs(u + v) - c, abs(x + y) - f, abs(u + x) - g, abs(v + y) - h) <= 0:
                        found.append(together(
                            joined((a, u), (b, v), to=(c, u + v)), joined((d, x), (e, y), to=(f, x + y)),
                            joined((c, u + v), (f, x + y), to=(i, i)), joined((a, u), (d, x), to=(g, u + x)),
                            joined((b, v), (e, y), to=(h, v + y)), joined((g, u + x), (h, v + y), to=(i, i))))
                self.assertEqual(total(found), self.number((a, b, d, e, i), (c, f), (g, h)))


if __name__ == "__main__":
    unittest.main()
