"""Promises 10 and 11: least_three, alike_threes, why_three."""

import random
import unittest
from fractions import Fraction
from itertools import permutations, product

from tests.plain import NOT_WHOLE
from tests.test_threes import WIDE
from tests.told import LONG, NOT_OFFSETS, NOT_PAIRS, all_offsets, all_symmetries, joined_terms, joins, refused, squared
from tests.told import step_done, steps_done, told_three, triples_to
from turncouple.errors import NoOffset, NoSize, NoTriple
from turncouple.numbers import exact, sign, times
from turncouple.threes import alike_threes, least_three, of_square, square_of, three, why_three

SMALL = triples_to(4)
ZERO = ((0, 0), (0, 0), (0, 0))
# Its square is not led to itself by any symmetry but the one that changes nothing.
UNEVEN = ((2, 0), (5, -1), (7, 1))


def is_within(square):
    return all(square[1][k] + square[2][k] <= 40 for k in range(3))


class Least(unittest.TestCase):
    def test_some(self):
        self.assertEqual(least_three(*ZERO), (((0, 0, 0), (0, 0, 0), (0, 0, 0)), 1))
        self.assertEqual(least_three((1, 1), (1, -1), (0, 0)), (((0, 0, 1), (0, 1, 0), (1, 0, 0)), 1))
        self.assertEqual(least_three((1, -1), (1, 1), (0, 0)), (((0, 0, 1), (0, 1, 0), (1, 0, 0)), -1))
        self.assertEqual(least_three((2, 0), (2, 0), (2, 0)), (((1, 1, 1), (1, 1, 1), (1, 1, 1)), 0))

    def test_against_all_symmetries(self):
        seen = set()
        for triple in SMALL + WIDE + [UNEVEN]:
            every = all_symmetries(square_of(*triple))
            self.assertEqual(len(every), 72)
            least = min(square for square, mark in every)
            marks = {mark for square, mark in every if square == least}
            due = 0 if len(marks) == 2 else marks.pop()
            told = least_three(*triple)
            self.assertEqual(told, (least, due))
            self.assertIs(type(told), tuple)
            self.assertIs(type(told[1]), int)
            seen.add(due)
        self.assertEqual(seen, {1, -1, 0})

    def test_the_three_is_the_sign_times_that_of_the_least(self):
        for triple in SMALL + WIDE:
            least, mark = least_three(*triple)
            if mark == 0:
                self.assertEqual(three(*triple), exact(0))
            elif is_within(least):
                self.assertEqual(three(*triple), times(exact(mark), three(*of_square(least))))

    def test_a_least_square_of_sizes_above_40(self):
        triple = ((40, 40), (40, -40), (20, 0))
        least, mark = least_three(*triple)
        self.assertEqual(least, min(square for square, mark in all_symmetries(square_of(*triple))))
        found = [triple for triple in WIDE if not is_within(least_three(*triple)[0])]
        self.assertGreater(len(found), 3)

    def test_all_symmetries_have_one_least_square(self):
        for triple in [UNEVEN, *SMALL[::17]]:
            least, mark = least_three(*triple)
            for square, factor in all_symmetries(square_of(*triple)):
                if is_within(square):
                    self.assertEqual(least_three(*of_square(square)), (least, mark * factor))


class Alike(unittest.TestCase):
    def check(self, triple, other):
        """Whether the told steps lead from one to the other, one by one; they are told back."""
        told = alike_threes(triple, other)
        self.assertIs(type(told), tuple)
        word, steps, mark = told
        self.assertEqual(word, "alike")
        self.assertIs(type(steps), list)
        self.assertLessEqual(len(steps), 5)
        self.assertEqual(steps_done(square_of(*triple), steps), (square_of(*other), mark))
        self.assertEqual(three(*triple), times(exact(mark), three(*other)))
        return steps

    def test_each_symmetry_of_some(self):
        longest = 0
        marks = set()
        for triple in [UNEVEN, ((3, 1), (4, -2), (5, 1)), ((6, 2), (4, 0), (4, -2)), ((2, 0), (2, 0), (2, 0)), ZERO]:
            for square, mark in all_symmetries(square_of(*triple)):
                steps = self.check(triple, of_square(square))
                longest = max(longest, len(steps))
                if triple == UNEVEN:
                    told = alike_threes(triple, of_square(square))[2]
                    self.assertEqual(told, mark)
                    marks.add(told)
        self.assertEqual(marks, {1, -1})
        self.assertEqual(longest, 5)

    def test_small_ones_against_all_symmetries(self):
        luck = random.Random(5)
        words = set()
        for at in range(1500):
            triple, other = luck.choice(SMALL), luck.choice(SMALL)
            led = [square for square, mark in all_symmetries(square_of(*triple))]
            if square_of(*other) in led:
                self.check(triple, other)
                words.add("alike")
            else:
                due = ("unlike", least_three(*triple)[0], least_three(*other)[0])
                self.assertEqual(alike_threes(triple, other), due)
                words.add("unlike")
        self.assertEqual(words, {"alike", "unlike"})

    def test_with_itself(self):
        for triple in SMALL[::5] + WIDE[:20]:
            self.assertEqual(alike_threes(triple, triple), ("alike", [], 1))

    def test_unlike_ones(self):
        told = alike_threes(((2, 0), (2, 0), (2, 0)), ((2, 2), (2, -2), (2, 0)))
        self.assertEqual(told, ("unlike", ((1, 1, 1), (1, 1, 1), (1, 1, 1)), ((0, 1, 2), (1, 1, 1), (2, 1, 0))))
        told = alike_threes(ZERO, ((1, 1), (1, -1), (0, 0)))
        self.assertEqual(told, ("unlike", ((0, 0, 0), (0, 0, 0), (0, 0, 0)), ((0, 0, 1), (0, 1, 0), (1, 0, 0))))

    def test_beyond_orders_and_signs(self):
        # Exchanged rows other than the last two make other sizes of a three.
        triple = ((6, 2), (4, 0), (4, -2))
        square, mark = step_done(square_of(*triple), ("rows", 0, 1))
        other = of_square(square)
        self.assertNotEqual(sorted(size for size, offset in triple), sorted(size for size, offset in other))
        self.check(triple, other)

    def test_a_told_list_is_the_askers_own(self):
        triple, other = UNEVEN, (UNEVEN[1], UNEVEN[0], UNEVEN[2])
        told = alike_threes(triple, other)
        before = list(told[1])
        told[1].clear()
        self.assertEqual(alike_threes(triple, other)[1], before)
        self.assertNotEqual(before, [])


class RefusedTriples(unittest.TestCase):
    good = ((2, 0), (2, 2), (2, -2))

    def both_places(self, kind, thing):
        refused(self, kind, alike_threes, thing, self.good)
        refused(self, kind, alike_threes, self.good, thing)
        refused(self, kind, alike_threes, thing, thing)

    def test_what_is_no_tuple_of_three(self):
        for thing in [*NOT_WHOLE, 0, 3, LONG, list(self.good), self.good[:2], (*self.good, (2, 0)), {1: 2, 3: 4, 5: 6},
                      "abc", [(2, 0), (2, 2), (2, -2)]]:
            self.both_places(NoTriple, thing)

    def test_no_pair_no_size_no_offset_no_square(self):
        for at in range(3):
            for thing in NOT_PAIRS:
                self.both_places(NoSize, tuple(thing if k == at else pair for k, pair in enumerate(self.good)))
            for thing in NOT_OFFSETS:
                self.both_places(NoOffset, tuple((2, thing) if k == at else pair for k, pair in enumerate(self.good)))
        for triple in [((2, 0), (2, 0), (2, 2)), ((2, 0), (2, 0), (6, 0)), ((1, 1), (1, 1), (1, 1))]:
            self.both_places(NoTriple, triple)
        self.both_places(NoTriple, ())
        self.both_places(NoSize, (1, 2, 3))
        for triple in permutations([(2, 1), (41, 1), (2, 0)]):
            self.both_places(NoSize, triple)
        for triple in permutations([(2, 1), (8, 0), (2, 0)]):
            self.both_places(NoOffset, triple)

    def test_all_of_the_first_ahead_of_the_second(self):
        wrong = [(NoTriple, None), (NoSize, ((2, 0), (2, 0), None)), (NoOffset, ((2, 0), (2, 1), (2, 0))),
                 (NoTriple, ((2, 0), (2, 0), (6, 0))), (NoTriple, ((2, 2), (2, 0), (2, 0))), (NoTriple, [1, 2, 3])]
        for (kind, triple), (later, other) in product(wrong, repeat=2):
            refused(self, kind, alike_threes, triple, other)


class Why(unittest.TestCase):
    def test_triangle(self):
        for triple in [((1, 1), (1, 1), (1, 1)), ((2, 0), (2, 0), (6, 0)), ((0, 0), (0, 0), (2, 2)),
                       ((40, 2), (38, 0), (0, 0)), ((1, 1), (2, 0), (2, 0)), ((5, 5), (1, -1), (2, 2))]:
            self.assertEqual(why_three(*triple), ("triangle",))

    def test_offsets(self):
        for triple in [((2, 2), (2, 0), (2, 0)), ((2, 2), (2, 2), (2, 2)), ((1, 1), (1, 1), (0, 0)),
                       ((40, 40), (40, 0), (40, 0))]:
            self.assertEqual(why_three(*triple), ("offsets",))

    def test_signs(self):
        for triple in [((2, 0), (2, 0), (2, 0)), ((4, 0), (4, 0), (2, 0)), ((3, 1), (3, 1), (4, -2)),
                       ((6, 0), (6, 0), (6, 0))]:
            word, steps = why_three(*triple)
            self.assertEqual(word, "signs")
            self.assertIs(type(steps), list)

    def test_terms_that_meet(self):
        self.assertEqual(why_three((6, 4), (6, -4), (4, 0)), ("met", [(1, 24), (-1, 24)]))
        self.assertEqual(why_three((7, 3), (6, -2), (3, -1)), ("met", [(-1, 24), (1, 24)]))
        self.assertEqual(why_three((6, -4), (6, 4), (4, 0)), ("met", [(-1, 24), (1, 24)]))

    def test_not(self):
        self.assertEqual(why_three(*ZERO), ("not", 1))
        self.assertEqual(why_three((2, 0), (2, 0), (0, 0)), ("not", -1))
        self.assertEqual(why_three((4, 0), (4, 0), (4, 0)), ("not", -1))

    def check(self, triple):
        """Whether the told reason is the first that holds."""
        (a, u), (b, v), (c, w) = triple
        told = why_three(*triple)
        self.assertIs(type(told), tuple)
        number = three(*triple)
        if not joins(a, b, c):
            self.assertEqual(told, ("triangle",))
        elif u + v + w != 0:
            self.assertEqual(told, ("offsets",))
        elif (square_of(*triple), -1) in all_symmetries(square_of(*triple)):
            word, steps = told
            self.assertEqual(word, "signs")
            self.assertLessEqual(len(steps), 5)
            self.assertEqual(steps_done(square_of(*triple), steps), (square_of(*triple), -1))
        elif told_three(*triple) == 0:
            due = [(term.numerator, term.denominator) for term in joined_terms((a, u), (b, v), c)]
            self.assertEqual(told, ("met", due))
            self.assertGreater(len(due), 1)
            self.assertEqual(sum(Fraction(*term) for term in told[1]), 0)
        else:
            self.assertEqual(told, ("not", sign(number)))
            self.assertEqual(told[1], 1 if squared(number) > 0 else -1)
        self.assertEqual(number == exact(0), told[0] != "not")
        return told[0]

    def test_the_first_reason_that_holds(self):
        words = set()
        for sizes in product(range(4), repeat=3):
            for offsets in all_offsets(*sizes):
                words.add(self.check(tuple(zip(sizes, offsets))))
        for triple in SMALL + WIDE + triples_to(8)[::7]:
            words.add(self.check(triple))
        for triple in permutations([(6, 4), (6, -4), (4, 0)]):
            words.add(self.check(triple))
        self.assertEqual(words, {"triangle", "offsets", "signs", "met", "not"})

    def test_told_lists_are_the_askers_own(self):
        for triple in [((2, 0), (2, 0), (2, 0)), ((6, 4), (6, -4), (4, 0))]:
            told = why_three(*triple)
            before = list(told[1])
            told[1].append(None)
            self.assertEqual(why_three(*triple)[1], before)


if __name__ == "__main__":
    unittest.main()
