"""Promises 4 and 20: trees, labelled trees, their standings, and how one stands in another."""

import random
import unittest
from itertools import permutations

from tests.plain import NOT_WHOLE
from tests.stood import (NOT_NAMES, NOUGHT, OTHER_THINGS, drawn_labelled, drawn_tree, drawn_turns, labelled_of,
                         places_of, plain_stands, products_of, turns_of)
from tests.told import LONG, joins, offsets_of, refused, together, total
from turncouple.errors import NoOffset, NoStanding, NoTree, TooWide
from turncouple.numbers import Exact, exact, times
from turncouple.sixes import nine, six
from turncouple.standings import Standing, held
from turncouple.trees import depths, led, moves, plain_tree, recoupled, stands, tree_of, way
from turncouple.turns import joined

A, B, C = ("a", 2), ("b", 1), ("c", 3)


def chain(names, left=True):
    tree = names[0]
    for name in names[1:]:
        tree = (tree, name) if left else (name, tree)
    return tree


def chain_labelled(turns, ends, left=True):
    found = turns[0]
    for turn, end in zip(turns[1:], ends):
        found = (found, turn, end) if left else (turn, found, end)
    return found


# Labelled trees at the limits.
SIX = chain_labelled([(name, 8) for name in "abcdef"], [16, 24, 32, 40, 40])
AT_LIMIT = ((("a", 7), ("b", 7), 2), ("c", 1), 1)
BOTH_SIDES = ((("a", 8), ("b", 8), 16), ((("c", 8), ("d", 8), 16), (("e", 8), ("f", 8), 16), 32), 40)


def wrong_labelled():
    """What is no labelled tree, each for one reason."""
    yield from [thing for thing in OTHER_THINGS]
    yield from ["a", ("a", "b"), ["a", 2], [A, B, 1], (A, B), (A, B, 1, 1), (A,), ((A, B), 1), (A, 1), ("a", "b", 2),
                (list(A), B, 1), (A, list(B), 1), (None, B, 1), (A, None, 1), (A, B, (1,)), ((A, B, 1),), {"a": 2},
                (A, "b", 1), (("a", 2, 2), B, 1), ((A, B, 1), C, 1, 1), ("a", 2, 2)]
    # Names twice, too many.
    yield from [(A, A, 2), (A, ("a", 1), 1), ((A, B, 1), A, 1), (A, (B, A, 1), 3)]
    yield chain_labelled([(name, 0) for name in "abcdefg"], [0] * 6)
    yield chain_labelled([(name, 1) for name in "abcdefg"], [0, 1, 0, 1, 0, 1], left=False)
    yield ((chain_labelled([(name, 0) for name in "abcd"], [0] * 3)),
           chain_labelled([(name, 0) for name in "efgh"], [0] * 3), 0)
    # Joints that may not be, sizes beyond.
    yield from [(A, B, size) for size in (0, 2, 4, 5, -1, 40, 41, LONG, -LONG)]
    yield from [((A, B, 2), C, 1), ((A, B, 5), C, 2), (C, (A, B, 2), 1), ((A, B, 1), C, 1), ((A, B, 3), C, 8)]
    yield from [(("a", 9), ("b", 9), 2), ("a", 9), ("a", 40), ("a", -1), (A, ("b", 10), 8), ("a", LONG)]
    yield chain_labelled([(name, 8) for name in "abcdef"], [16, 24, 32, 40, 48])
    yield chain_labelled([(name, 8) for name in "abcdef"], [16, 24, 32, 40, 42])
    for wrong in NOT_WHOLE:
        yield from [("a", wrong), (A, B, wrong), ((A, ("b", wrong), 2), C, 1), ((A, B, wrong), C, 2)]
    for wrong in NOT_NAMES:
        yield from [(wrong, 2), (A, (wrong, 1), 1), ((wrong, 1), A, 3)]
    one = ("a", 0)
    for level in range(13):
        one = (one, one, 0)
    yield one
    one = ("a", 0)
    for level in range(12):
        one = (("b", 0), one, 0)
    yield one


def wrong_trees():
    """What is no tree, each for one reason."""
    yield from [thing for thing in OTHER_THINGS] + NOT_NAMES
    yield from [["a", "b"], ("a",), ("a", "b", "c"), ("a", ["b", "c"]), ("a", None), (None, "a"), ("a", ()), ("a", 2), A,
                (A, B, 1), ("a", "a"), (("a", "b"), "a"), ("a", ("b", ("c", "b"))), ("a", "B"), ("a", ""),
                ("a", "abcdefghi"), {"a": "b"}, ("a", ("b",)), ("a", True)]
    yield from [chain("abcdefg"), chain("abcdefg", left=False), (chain("abcd"), chain("efgh"))]
    one = "a"
    for level in range(14):
        one = (one, one)
    yield one
    yield chain(["a"] * 14)


class Trees(unittest.TestCase):
    def test_tree_of(self):
        self.assertEqual(tree_of(A), "a")
        self.assertEqual(tree_of((A, B, 1)), ("a", "b"))
        self.assertEqual(tree_of((C, (A, B, 1), 2)), ("c", ("a", "b")))
        self.assertEqual(tree_of(SIX), chain("abcdef"))
        self.assertEqual(tree_of(BOTH_SIDES), (("a", "b"), (("c", "d"), ("e", "f"))))
        self.assertEqual(tree_of(("abcdefgh", 0)), "abcdefgh")
        luck = random.Random(20)
        for at in range(12):
            labelled = drawn_labelled(luck, drawn_turns(luck, luck.randint(1, 5), most=100, highest=3))
            self.assertIn(labelled, labelled_of(tree_of(labelled), dict(turns_of(labelled))))

    def test_what_is_no_labelled_tree(self):
        way_of_one = ["a"]
        for thing in wrong_labelled():
            refused(self, NoTree, tree_of, thing)
            for offset in (0, 1, None, LONG):
                refused(self, NoTree, stands, thing, offset=offset)
            refused(self, NoTree, recoupled, thing, A)
            refused(self, NoTree, recoupled, A, thing)
            for steps in (way_of_one, None, []):
                refused(self, NoTree, led, thing, steps)

    def test_what_is_no_tree(self):
        for thing in wrong_trees():
            for work in (plain_tree, moves, depths):
                refused(self, NoTree, work, thing)
            refused(self, NoTree, way, thing, "a")
            refused(self, NoTree, way, "a", thing)
            refused(self, NoTree, way, thing, thing)

    def test_what_is_one(self):
        for tree in ["a", "abcdefgh", ("a", "b"), chain("abcdef"), chain("fedcba", left=False),
                     (("a", "b"), (("c", "d"), ("e", "f")))]:
            plain_tree(tree)
        for labelled in [A, ("a", 0), ("a", 8), SIX, BOTH_SIDES, (("a", 8), ("b", 8), 16), (A, B, 1), (A, B, 3),
                         chain_labelled([(name, 8) for name in "abcdef"], [16, 24, 32, 40, 32], left=False)]:
            tree_of(labelled)


class Stands(unittest.TestCase):
    def check(self, labelled, offset):
        told = stands(labelled, offset=offset)
        self.assertIsInstance(told, Standing)
        self.assertEqual(told.turns(), turns_of(labelled))
        self.assertEqual(told.numbers(), plain_stands(labelled, offset))
        return told

    def test_one_turn_alone(self):
        for size in range(9):
            for offset in offsets_of(size):
                self.assertEqual(self.check(("a", size), offset).numbers(), {(offset,): exact(1)})

    def test_two(self):
        for a, b, c in [(1, 1, 0), (1, 1, 2), (2, 3, 1), (2, 3, 5), (4, 4, 4), (0, 3, 3), (8, 8, 6)]:
            for w in offsets_of(c):
                told = self.check((("x", a), ("b", b), c), w)
                for u, v in places_of(told.turns()):
                    self.assertEqual(told.at((u, v)), joined((a, u), (b, v), to=(c, w)))

    def test_deep_ones(self):
        luck = random.Random(1)
        for many in (3, 4, 5, 6):
            for at in range(6):
                labelled = drawn_labelled(luck, drawn_turns(luck, many, most=72))
                for offset in {labelled[-1], -labelled[-1], luck.choice(offsets_of(labelled[-1]))}:
                    self.check(labelled, offset)

    def test_they_are_orthogonal(self):
        luck = random.Random(2)
        for at in range(4):
            turns = drawn_turns(luck, 3, most=24, highest=3)
            tree = drawn_tree(luck, [name for name, size in turns])
            every = [(labelled, offset) for labelled in labelled_of(tree, dict(turns)) for offset in offsets_of(labelled[-1])]
            self.assertEqual(len(every), products_of(turns))
            standings = [stands(labelled, offset=offset) for labelled, offset in every]
            for i, one in enumerate(standings):
                for j, other in enumerate(standings):
                    self.assertEqual(held(one, other), exact(1 if i == j else 0))

    def test_refused_in_order(self):
        for offset in [*NOT_WHOLE, 0, 2, -5, 5, LONG]:
            refused(self, NoOffset, stands, (A, B, 3), offset=offset)
        for offset in [*NOT_WHOLE, 1, 42, -42]:
            refused(self, NoOffset, stands, SIX, offset=offset)
            refused(self, NoOffset, stands, BOTH_SIDES, offset=offset)
        for labelled in [SIX, BOTH_SIDES, ((("a", 8), ("b", 8), 0), ("c", 1), 1), ((("a", 7), ("b", 7), 2), ("c", 2), 2)]:
            for offset in (labelled[-1], -labelled[-1]):
                refused(self, NoStanding, stands, labelled, offset=offset)
        self.assertEqual(products_of(turns_of(AT_LIMIT)), 128)
        self.check(AT_LIMIT, 1)


class Recoupled(unittest.TestCase):
    def plain(self, one, other, offset):
        names = [name for name, size in turns_of(one)]
        order = [names.index(name) for name, size in turns_of(other)]
        known = plain_stands(other, offset)
        return total(times(number, known.get(tuple(places[at] for at in order), NOUGHT))
                     for places, number in plain_stands(one, offset).items())

    def test_against_plain_sums_at_each_offset(self):
        luck = random.Random(3)
        seen = 0
        for at in range(60):
            turns = drawn_turns(luck, luck.randint(1, 5), most=60, highest=5)
            one, other = drawn_labelled(luck, turns), drawn_labelled(luck, turns)
            told = recoupled(one, other)
            self.assertIsInstance(told, Exact)
            self.assertEqual(recoupled(other, one), told)
            if one[-1] != other[-1]:
                self.assertEqual(told, NOUGHT)
                continue
            seen += told != NOUGHT
            for offset in sorted({-one[-1], one[-1], luck.choice(offsets_of(one[-1]))}):
                self.assertEqual(told, self.plain(one, other, offset))
        self.assertGreater(seen, 10)

    def test_three_sizes_are_a_six(self):
        luck = random.Random(4)
        for at in range(80):
            a, b, c = [luck.randint(0, 6) for k in range(3)]
            p = luck.choice([size for size in range(13) if joins(a, b, size)])
            q = luck.choice([size for size in range(13) if joins(b, c, size)])
            ends = [size for size in range(20) if joins(p, c, size) and joins(a, q, size)]
            if ends:
                end = luck.choice(ends)
                x, y, z = ("x", a), ("b", b), ("y", c)
                due = together((-1) ** ((a + b + c + end) // 2), exact(1, root=(p + 1) * (q + 1)), six(a, b, p, c, end, q))
                self.assertEqual(recoupled(((x, y, p), z, end), (x, (y, z, q), end)), due)
                mark = (-1) ** ((b + c - q) // 2 + (a + q - end) // 2)
                self.assertEqual(recoupled(((x, y, p), z, end), ((z, y, q), x, end)), together(mark, due))

    def test_four_sizes_are_a_nine(self):
        luck = random.Random(5)
        seen = 0
        for at in range(60):
            a, b, d, e = [luck.randint(1, 3) for k in range(4)]
            c, f, g, h = [luck.choice([size for size in range(7) if joins(x, y, size)])
                          for x, y in [(a, b), (d, e), (a, d), (b, e)]]
            ends = [size for size in range(13) if joins(c, f, size) and joins(g, h, size)]
            if ends:
                end = luck.choice(ends)
                w, x, y, z = ("w", a), ("x", b), ("y", d), ("z", e)
                one, other = ((w, x, c), (y, z, f), end), ((w, y, g), (x, z, h), end)
                root = together(exact(1, root=(c + 1) * (f + 1)), exact(1, root=(g + 1) * (h + 1)))
                due = together(root, nine(((a, b, c), (d, e, f), (g, h, end))))
                self.assertEqual(recoupled(one, other), due)
                seen += due != NOUGHT
        self.assertGreater(seen, 15)

    def test_with_itself(self):
        luck = random.Random(6)
        for at in range(10):
            labelled = drawn_labelled(luck, drawn_turns(luck, luck.randint(1, 6), most=300))
            self.assertEqual(recoupled(labelled, labelled), exact(1))

    def test_all_of_one_tree_come_to_1(self):
        luck = random.Random(7)
        for at in range(6):
            turns = drawn_turns(luck, 4, most=60, highest=3)
            one = drawn_labelled(luck, turns)
            tree = drawn_tree(luck, [name for name, size in turns])
            numbers = [recoupled(one, other) for other in labelled_of(tree, dict(turns))]
            self.assertEqual(total(times(number, number) for number in numbers), exact(1))

    def test_no_tree_of_other_turns(self):
        for other in [A, (A, B, 3), ((A, B, 1), ("c", 1), 2), ((A, B, 1), ("d", 3), 2), ((A, ("b", 3), 1), C, 2),
                      ((A, ("c", 1), 1), ("b", 3), 2), (((A, B, 1), C, 2), ("d", 0), 2)]:
            refused(self, NoTree, recoupled, ((A, B, 1), C, 2), other)
            refused(self, NoTree, recoupled, other, ((A, B, 1), C, 2))
        refused(self, NoTree, recoupled, A, ("a", 1))
        refused(self, NoTree, recoupled, SIX, A)
        refused(self, NoTree, recoupled, SIX, chain_labelled([(name, 8) for name in "abcdeg"], [16, 24, 32, 40, 40]))

    def test_too_wide_last_whatever_the_last_sizes(self):
        refused(self, TooWide, recoupled, SIX, BOTH_SIDES)
        refused(self, TooWide, recoupled, SIX, chain_labelled([(name, 8) for name in "abcdef"], [0, 8, 0, 8, 0]))
        just = [("a", 4), ("b", 4), ("c", 4), ("d", 3)]
        for one, other in permutations([chain_labelled(just, ends) for ends in [(0, 4, 1), (4, 4, 1), (8, 6, 3)]], 2):
            self.assertEqual(products_of(just), 500)
            recoupled(one, other)
        beyond = [("a", 2), ("b", 6), ("c", 4), ("d", 4)]
        self.assertEqual(products_of(beyond), 525)
        over = [chain_labelled(beyond, ends) for ends in [(4, 0, 4), (6, 2, 4), (8, 4, 0)]]
        for one in over:
            for other in over:
                refused(self, TooWide, recoupled, one, other)


if __name__ == "__main__":
    unittest.main()
