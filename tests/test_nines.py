"""Promise 14: nine, nine_by_threes, why_nine."""

import random
import unittest
from itertools import permutations, product

from tests.plain import NOT_WHOLE
from tests.told import LONG, NOT_SIZES, all_offsets, joins, refused, together, told_six, total
from turncouple.errors import NoSize, NoTable, TooWide
from turncouple.numbers import Exact, exact, over, sign, times
from turncouple.sixes import nine, nine_by_threes, six, why_nine
from turncouple.threes import three

GOOD = ((2, 2, 2), (2, 2, 2), (2, 2, 2))
MET = [((3, 4, 1), (6, 3, 5), (3, 3, 4)), ((3, 1, 4), (3, 5, 8), (4, 6, 6)), ((3, 3, 4), (4, 2, 2), (5, 1, 4)),
       ((6, 1, 5), (7, 5, 10), (9, 6, 13))]


def lines(rows):
    return [*rows, *zip(*rows)]


def may_be(rows):
    return all(joins(*line) for line in lines(rows))


def in_rows(sizes):
    return sizes[:3], sizes[3:6], sizes[6:]


def some_nines(seed, many, lowest, highest):
    luck = random.Random(seed)
    found = []
    while len(found) < many:
        a, b, d, e = [luck.randint(lowest, highest) for k in range(4)]
        c, f = [luck.randrange(abs(x - y), x + y + 1, 2) for x, y in [(a, b), (d, e)]]
        g, h = [luck.randrange(abs(x - y), x + y + 1, 2) for x, y in [(a, d), (b, e)]]
        ends = [i for i in range(21) if joins(c, f, i) and joins(g, h, i)]
        if ends and max(c, f, g, h) <= 20:
            found.append(((a, b, c), (d, e, f), (g, h, luck.choice(ends))))
    return found


SMALL = [in_rows(sizes) for sizes in product(range(3), repeat=9)]
MAY_BE = [rows for rows in SMALL if may_be(rows)]
WIDE = some_nines(1, 40, 1, 20) + [((20,) * 3,) * 3, ((20, 20, 0), (20, 20, 0), (0, 0, 0)), ((10, 10, 20),) * 3]


def told_nine(rows):
    """The told sum, over all sizes from 0 to 40, none left out."""
    (a, b, c), (d, e, f), (g, h, i) = rows
    if not may_be(rows):
        return exact(0)
    found = []
    for x in range(41):
        sixes = [six(a, d, g, h, i, x), six(b, e, h, d, x, f), six(c, f, i, x, a, b)]
        found.append(together((-1) ** x * (x + 1), *sixes))
    return total(found)


def plain_nine(rows):
    """The sum over all offsets of all nine, none left out but where a three is 0 for them."""
    found = []
    for offsets in all_offsets(*[size for row in rows for size in row]):
        pairs = [list(zip(row, places)) for row, places in zip(rows, in_rows(offsets))]
        if all(sum(offset for size, offset in line) == 0 for line in lines(pairs)):
            found.append(together(*[three(*line) for line in lines(pairs)]))
    return total(found)


class Values(unittest.TestCase):
    def test_known_ones(self):
        for rows, due in [
            (((0,) * 3,) * 3, "1"), (((1, 1, 2), (1, 1, 2), (2, 2, 4)), "1/9"),
            (((1, 1, 0), (1, 1, 0), (0, 0, 0)), "1/2"), (((1, 1, 2), (1, 1, 0), (2, 2, 2)), "1/18*r6"),
            (((2, 2, 4), (2, 2, 4), (4, 4, 4)), "-1/150"),
            (((1, 2, 3), (2, 1, 1), (3, 1, 2)), "-1/36"), (GOOD, "0"), (((1, 1, 1),) * 3, "0"),
            (((2, 2, 6), (2, 2, 2), (2, 2, 2)), "0"),
        ]:
            self.assertEqual(str(nine(rows)), due)
            self.assertIsInstance(nine(rows), Exact)

    def test_with_a_nought(self):
        # With 0 in a corner a nine is a six, over a root.
        for a, b, c, d, e, g in [(1, 1, 2, 1, 1, 2), (2, 3, 5, 4, 3, 2), (4, 4, 4, 4, 4, 4),
                                 (3, 4, 5, 4, 3, 3), (20, 20, 20, 20, 20, 20)]:
            rows = ((a, b, c), (d, e, c), (g, g, 0))
            mark = exact((-1) ** ((b + c + d + g) // 2))
            due = over(times(mark, six(a, b, c, e, d, g)), exact(1, root=(c + 1) * (g + 1)))
            self.assertEqual(nine(rows), due)
            self.assertEqual(due == exact(0), told_six((a, b, c, e, d, g)) == 0)

    def test_all_small_ones(self):
        for rows in SMALL[::9] + MAY_BE:
            self.assertEqual(nine(rows), told_nine(rows), rows)

    def test_wide_ones(self):
        for rows in WIDE + MET:
            self.assertEqual(nine(rows), told_nine(rows), rows)


class ByThrees(unittest.TestCase):
    def test_both_sums_agree(self):
        for rows in SMALL:
            self.assertEqual(nine_by_threes(rows), nine(rows), rows)

    def test_against_the_plain_sum(self):
        for rows in MAY_BE[::4] + [GOOD]:
            self.assertEqual(nine_by_threes(rows), plain_nine(rows))
        for rows in MET[:1] + some_nines(6, 3, 1, 3):
            self.assertEqual(nine(rows), plain_nine(rows))


class Symmetry(unittest.TestCase):
    def test_rows_columns_and_both_exchanged(self):
        for rows in MAY_BE[::3] + WIDE[:10] + MET:
            told = nine(rows)
            mark = exact((-1) ** (sum(sum(row) for row in rows) // 2))
            one, other, third = rows
            self.assertEqual(nine(tuple(zip(*rows))), told)
            for exchanged in [(other, one, third), (third, other, one), (one, third, other)]:
                self.assertEqual(nine(exchanged), times(told, mark))
                self.assertEqual(nine(tuple(zip(*exchanged))), times(told, mark))
            for i, j, k in [(1, 0, 2), (2, 1, 0), (0, 2, 1)]:
                self.assertEqual(nine(tuple((row[i], row[j], row[k]) for row in rows)), times(told, mark))
            self.assertEqual(nine((other, third, one)), told)


class Refused(unittest.TestCase):
    works = (nine, why_nine, nine_by_threes)

    def test_no_table(self):
        rows = list(GOOD)
        for work in self.works:
            for thing in [*NOT_WHOLE, 0, 9, LONG, rows, [list(row) for row in rows],
                          tuple(list(row) for row in rows), GOOD[:2], (*GOOD, (2, 2, 2)), (2, 2, 2), (2,) * 9,
                          ((2, 2), (2, 2), (2, 2)), ("222", "222", "222"), {1: GOOD}, ({1: 2},) * 3, "abc"]:
                refused(self, NoTable, work, thing)
            for at in range(3):
                for thing in [None, [2, 2, 2], (2, 2), (2, 2, 2, 2), 7, True, "222", {}, ()]:
                    table = tuple(thing if k == at else row for k, row in enumerate(rows))
                    refused(self, NoTable, work, table)
                    # No size, and too wide, stand behind.
                    for wrong in (None, 41, 40, True):
                        worse = tuple(thing if k == at else (wrong, 2, 2) for k in range(3))
                        refused(self, NoTable, work, worse)

    def test_no_size_ahead_of_too_wide(self):
        for work in self.works:
            for at in range(9):
                for thing in NOT_SIZES:
                    for other in (2, 21, 40, 41):
                        sizes = [other] * 9
                        sizes[at] = thing
                        refused(self, NoSize, work, in_rows(tuple(sizes)))

    def test_too_wide(self):
        for work, high in [(nine, 20), (why_nine, 20), (nine_by_threes, 2)]:
            for at in range(9):
                for size in (high + 1, high + 2, 40):
                    sizes = [2] * 9
                    sizes[at] = size
                    refused(self, TooWide, work, in_rows(tuple(sizes)))
                sizes = [2] * 9
                sizes[at] = high
                work(in_rows(tuple(sizes)))
        refused(self, TooWide, nine_by_threes, ((20,) * 3,) * 3)


class Why(unittest.TestCase):
    def check(self, rows):
        told = why_nine(rows)
        self.assertIs(type(told), tuple)
        every = lines(rows)
        ends = [joins(*line) for line in every]
        like = [(i, j) for i, j in [(0, 1), (0, 2), (1, 2), (3, 4), (3, 5), (4, 5)] if every[i] == every[j]]
        if False in ends:
            self.assertEqual(told, ("triangle", ends.index(False)))
        elif like and sum(sum(row) for row in rows) // 2 % 2 == 1:
            # Any two that are the same do, but rows go ahead of columns.
            self.assertIn(told, [("signs", i, j) for i, j in like])
            self.assertEqual(told[2] < 3, like[0][1] < 3)
        elif nine(rows) == exact(0):
            self.assertEqual(told, ("met",))
        else:
            self.assertEqual(told, ("not", sign(nine(rows))))
        self.assertEqual(nine(rows) == exact(0), told[0] != "not")
        return told

    def test_each_reason(self):
        seen = {self.check(rows) for rows in SMALL[::3] + MAY_BE + WIDE + MET + some_nines(4, 60, 1, 7)}
        for k in range(6):
            self.assertIn(("triangle", k), seen)
        for due in [("signs", 0, 1), ("met",), ("not", 1), ("not", -1)]:
            self.assertIn(due, seen)

    def test_signs(self):
        self.assertEqual(why_nine(GOOD), ("signs", 0, 1))
        for one, third in [((1, 2, 3), (2, 2, 2)), ((1, 2, 3), (2, 4, 4)), ((1, 3, 2), (2, 2, 2))]:
            for i, j in [(0, 1), (0, 2), (1, 2)]:
                table = [third] * 3
                table[i] = table[j] = one
                rows = tuple(table)
                self.assertEqual(why_nine(rows), ("signs", i, j))
                self.assertEqual(why_nine(tuple(zip(*rows))), ("signs", i + 3, j + 3))
        # Both two rows and two columns are the same here: the rows are told.
        self.assertEqual(why_nine(((2, 4, 4), (2, 3, 3), (2, 3, 3))), ("signs", 1, 2))

    def test_like_rows_of_an_even_sum_are_no_reason(self):
        for rows in [((1, 1, 2), (1, 1, 2), (2, 2, 4)), ((2, 2, 4), (2, 2, 4), (4, 4, 4)), ((20,) * 3,) * 3]:
            self.assertEqual(self.check(rows)[0], "not")

    def test_met(self):
        for rows in MET:
            self.assertEqual(why_nine(rows), ("met",))
            for order in permutations(range(3)):
                self.assertEqual(why_nine(tuple(rows[at] for at in order)), ("met",))


if __name__ == "__main__":
    unittest.main()
