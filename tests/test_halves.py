"""Promises 4 and 22: halves, and standings turned by them."""

import random
import unittest
from fractions import Fraction
from math import factorial

from tests.plain import NOT_WHOLE
from tests.stood import (HALVES, LONG_SIDE, NOT_NAMES, NOUGHT, OTHER_THINGS, drawn_labelled, drawn_standing, drawn_turns,
                         half_of, places_of)
from tests.told import LONG, NOT_SIZES, offsets_of, refused, rooted, squared, together, total
from turncouple.errors import NoHalf, NoName, NoOffset, NoSize, NoStanding
from turncouple.halves import back_half, both_halves, turned, turned_standing
from turncouple.numbers import Exact, exact
from turncouple.standings import Standing, beside, held
from turncouple.trees import stands

GOOD = ((3, 5), (4, 5))
# Halves of exactly sixty figures below, and of sixty-one.
SIXTY = [half_of(LONG_SIDE, 2), half_of(10 ** 29, 9 * 10 ** 29 + 1), ((10 ** 0, 1), (0, 1))]
SIXTY_ONE = [half_of(10 ** 30, 1), half_of(10 ** 30, 3), half_of(8 * 10 ** 29 + 1, 8 * 10 ** 29)]
NOT_HALVES = [
    *OTHER_THINGS, GOOD[0], [GOOD[0], GOOD[1]], (list(GOOD[0]), GOOD[1]), (GOOD[0], list(GOOD[1])), (GOOD[0],),
    (*GOOD, GOOD[0]), (3, 4), (1, 0), (0, 1), ("35", "45"), {1: 1, 2: 2}, ({3: 5, 4: 5}, GOOD[1]),
    # Not in lowest terms, bottoms that aren't from 1 on.
    ((6, 10), (4, 5)), ((3, 5), (8, 10)), ((6, 10), (8, 10)), ((0, 5), (1, 1)), ((1, 1), (0, 2)), ((2, 2), (0, 1)),
    ((-3, -5), (4, 5)), ((3, 5), (-4, -5)), ((3, 0), (4, 5)), ((1, 1), (0, 0)), ((1, -1), (0, 1)), ((0, -1), (1, 1)),
    # Squares that don't come to 1.
    ((1, 2), (1, 2)), ((3, 5), (3, 5)), ((3, 5), (5, 5)), ((1, 1), (1, 1)), ((0, 1), (0, 1)), ((3, 5), (4, 7)),
    ((5, 13), (4, 5)), ((2, 1), (0, 1)), ((3, 1), (4, 1)),
    # Truths, and what is no whole number.
    ((True, 1), (0, 1)), ((1, True), (0, 1)), ((1, 1), (False, 1)), ((1, 1), (0, True)), ((1, 1), (None, 1)),
    (("1", 1), (0, 1)), ((exact(1), 1), (0, 1)), ((1, 1, 1), (0, 1)), ((1,), (0, 1)), ((1, 1), ()), ((1, 1), (0,)),
    ((LONG, LONG), (0, 1)), ((LONG, 1), (0, 1)), ((1, 1), (0, LONG)), *SIXTY_ONE,
]


def told_turned(size, u, v, half):
    """The square, with its sign, of the number of turned, as the point tells it."""
    c, s = Fraction(*half[0]), Fraction(*half[1])
    t = size
    found = Fraction(0)
    for k in range(50):
        powers = [t + (v - u) // 2 - 2 * k, (u - v) // 2 + 2 * k]
        below = [(t + v) // 2 - k, k, (u - v) // 2 + k, (t - u) // 2 - k]
        if min(powers + below) >= 0:
            term = c ** powers[0] * s ** powers[1] * (-1) ** (((u - v) // 2 + k) % 2)
            for number in below:
                term /= factorial(number)
            found += term
    square = Fraction(1)
    for number in [t + u, t - u, t + v, t - v]:
        square *= factorial(number // 2)
    return rooted(found, square)


class Halves(unittest.TestCase):
    def test_long_ones(self):
        for half in SIXTY:
            self.assertLess(half[0][1], 10 ** 60)
            self.assertEqual(back_half(back_half(half)), half)
        self.assertEqual(len(str(SIXTY[1][0][1])), 60)
        for half in SIXTY_ONE:
            self.assertGreaterEqual(half[0][1], 10 ** 60)
            self.assertEqual(Fraction(*half[0]) ** 2 + Fraction(*half[1]) ** 2, 1)

    def test_both_halves(self):
        for one in HALVES + SIXTY:
            for other in HALVES + SIXTY:
                (c, s), (d, t) = [[Fraction(*part) for part in half] for half in (one, other)]
                due = c * d - s * t, s * d + c * t
                told = both_halves(one, other)
                self.assertEqual(told, tuple((part.numerator, part.denominator) for part in due))
                self.assertEqual([type(part) for part in told], [tuple, tuple])
        wide = both_halves(SIXTY[0], SIXTY[1])
        self.assertGreater(wide[0][1], 10 ** 100)
        refused(self, NoHalf, back_half, wide)

    def test_back_half(self):
        self.assertEqual(back_half(GOOD), ((3, 5), (-4, 5)))
        for half in HALVES:
            self.assertEqual(both_halves(half, back_half(half)), ((1, 1), (0, 1)))

    def test_refused(self):
        for thing in NOT_HALVES:
            refused(self, NoHalf, back_half, thing)
            refused(self, NoHalf, both_halves, thing, GOOD)
            refused(self, NoHalf, both_halves, GOOD, thing)


class Turned(unittest.TestCase):
    def test_against_the_told_sum(self):
        for size in range(7):
            for half in HALVES + SIXTY[:2]:
                for u in offsets_of(size):
                    for v in offsets_of(size):
                        self.assertEqual(squared(turned(size, u, v, half)), told_turned(size, u, v, half))

    def test_wide_ones(self):
        luck = random.Random(22)
        for size in (8, 15, 39, 40):
            for half in HALVES[4:]:
                for at in range(6):
                    u, v = luck.choice(offsets_of(size)), luck.choice(offsets_of(size))
                    self.assertEqual(squared(turned(size, u, v, half)), told_turned(size, u, v, half))
        self.assertEqual(squared(turned(40, 38, -40, SIXTY[0])), told_turned(40, 38, -40, SIXTY[0]))

    def test_known_ones(self):
        self.assertEqual([str(turned(1, u, v, GOOD)) for u, v in [(1, 1), (1, -1), (-1, 1), (-1, -1)]],
                         ["3/5", "-4/5", "4/5", "3/5"])
        self.assertEqual(str(turned(2, 0, 2, GOOD)), "12/25*r2")
        self.assertEqual(turned(0, 0, 0, ((0, 1), (1, 1))), exact(1))
        self.assertIsInstance(turned(0, 0, 0, GOOD), Exact)
        for size in range(6):
            for u in offsets_of(size):
                for v in offsets_of(size):
                    self.assertEqual(turned(size, u, v, ((1, 1), (0, 1))), exact(1 if u == v else 0))
                    self.assertEqual(turned(size, u, v, ((0, 1), (1, 1))) == NOUGHT, u != -v)

    def test_one_half_and_then_another(self):
        for size in range(5):
            for one, other in zip(HALVES, HALVES[3:] + HALVES[:3]):
                both = both_halves(one, other)
                for u in offsets_of(size):
                    for v in offsets_of(size):
                        due = total(together(turned(size, u, w, one), turned(size, w, v, other))
                                    for w in offsets_of(size))
                        self.assertEqual(turned(size, u, v, both), due)

    def test_refused(self):
        for size in NOT_SIZES:
            refused(self, NoSize, turned, size, 0, 0, GOOD)
            refused(self, NoSize, turned, size, None, None, None)
        for offset in [*NOT_WHOLE, 1, -1, 3, 4, -4, LONG]:
            refused(self, NoOffset, turned, 2, offset, 0, GOOD)
            refused(self, NoOffset, turned, 2, 0, offset, GOOD)
            refused(self, NoOffset, turned, 2, offset, offset, None)
        for half in NOT_HALVES:
            refused(self, NoHalf, turned, 2, 0, 2, half)


class TurnedStanding(unittest.TestCase):
    def plain(self, standing, names, half):
        """The told sum over the offsets of the named turns."""
        turns = standing.turns()
        found = {}
        for places in places_of(turns):
            numbers = []
            for others in places_of([turn if turn[0] in names else (turn[0], 0) for turn in turns]):
                at = tuple(v if turn[0] in names else u for turn, u, v in zip(turns, places, others))
                factors = [turned(size, u, v, half) for (name, size), u, v in zip(turns, places, others) if name in names]
                numbers.append(together(standing.at(at), *factors))
            if total(numbers) != NOUGHT:
                found[places] = total(numbers)
        return found

    def test_against_the_told_sum(self):
        luck = random.Random(2)
        for at in range(25):
            turns = drawn_turns(luck, luck.randint(1, 3), most=18, highest=4)
            standing = drawn_standing(luck, turns)
            names = luck.sample([name for name, size in turns], luck.randint(0, len(turns)))
            half = luck.choice(HALVES)
            told = turned_standing(standing, names, half)
            self.assertEqual(told.turns(), turns)
            self.assertEqual(told.numbers(), self.plain(standing, names, half))

    def test_turned_and_turned_back(self):
        luck = random.Random(3)
        for at in range(15):
            turns = drawn_turns(luck, luck.randint(1, 4), most=64, highest=4)
            standing = drawn_standing(luck, turns)
            names = luck.sample([name for name, size in turns], luck.randint(1, len(turns)))
            one, other = luck.choice(HALVES), luck.choice(HALVES + SIXTY[:1])
            there = turned_standing(standing, names, one)
            self.assertEqual(turned_standing(there, names[::-1], back_half(one)), standing)
            self.assertEqual(held(there, there), held(standing, standing))
            both = both_halves(one, other)
            if both[0][1] < 10 ** 60:
                self.assertEqual(turned_standing(there, names, other), turned_standing(standing, names, both))
            # One by one is all at once.
            alone = standing
            for name in names:
                alone = turned_standing(alone, [name], one)
            self.assertEqual(alone, there)

    def test_an_empty_list_turns_nothing(self):
        standing = Standing((("a", 2),), {(0,): exact(1, root=2)})
        for half in HALVES:
            self.assertEqual(turned_standing(standing, [], half), standing)

    def test_joined_then_turned_is_turned_then_joined(self):
        luck = random.Random(8)
        for at in range(12):
            turns = drawn_turns(luck, luck.randint(2, 4), most=64, highest=3)
            labelled = drawn_labelled(luck, turns)
            names = [name for name, size in turns]
            half, size = luck.choice(HALVES), labelled[-1]
            for v in offsets_of(size):
                there = turned_standing(stands(labelled, offset=v), names, half)
                numbers = {}
                for u in offsets_of(size):
                    for places, number in stands(labelled, offset=u).numbers().items():
                        numbers[places] = together(number, turned(size, u, v, half))
                self.assertEqual(there, Standing(there.turns(), numbers))

    def test_beside_one_another(self):
        one = Standing((("a", 2), ("b", 1)), {(2, 1): exact(1), (0, -1): exact(3)})
        other = Standing((("c", 3),), {(1,): exact(1, root=2)})
        self.assertEqual(turned_standing(beside(one, other), ["c", "a"], GOOD),
                         beside(turned_standing(one, ["a"], GOOD), turned_standing(other, ["c"], GOOD)))

    def test_refused_in_order(self):
        standing = Standing((("a", 2), ("b", 1)), {(0, 1): exact(1)})
        for thing in OTHER_THINGS:
            for names, half in [(["a"], GOOD), (["z"], None), (None, None)]:
                refused(self, NoStanding, turned_standing, thing, names, half)
        for half in (GOOD, None, ((1, 2), (1, 2))):
            for thing in [*NOT_NAMES, "z", ["a"], ("a",), standing]:
                for names in [[thing], ["a", thing], ["b", thing, "a"], [thing, "zz"], [thing, "a", "a"]]:
                    self.check_name(thing, standing, names, half)
            self.check_name("a", standing, ["a", "a"], half)
            self.check_name("b", standing, ["a", "b", "b", "z"], half)
            self.check_name("z", standing, ["a", "z", "a"], half)
            for thing in [None, True, "a", "", ("a",), (), {"a": 1}, {}, 0, exact(1), standing]:
                self.check_name(thing, standing, thing, half)
        for half in NOT_HALVES:
            for names in ([], ["a"], ["b", "a"]):
                refused(self, NoHalf, turned_standing, standing, names, half)

    def check_name(self, name, standing, names, half):
        with self.assertRaises(NoName) as caught:
            turned_standing(standing, names, half)
        self.assertEqual(caught.exception.name, name)

    def test_what_is_handed_in_stays(self):
        standing = Standing((("a", 2), ("b", 1)), {(0, 1): exact(1)})
        names = ["b", "a"]
        turned_standing(standing, names, GOOD)
        self.assertEqual(names, ["b", "a"])
        self.assertEqual(standing.numbers(), {(0, 1): exact(1)})


if __name__ == "__main__":
    unittest.main()
