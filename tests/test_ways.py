"""Promises 4 and 21: plain trees, moves, ways, and what leads along them."""

import random
import unittest
from itertools import product

from tests.stood import NOUGHT, OTHER_THINGS, drawn_labelled, drawn_tree, drawn_turns, labelled_of, turns_of
from tests.told import refused, total
from turncouple.errors import NoTree, NoWay, TooWide
from turncouple.numbers import Exact, exact, times
from turncouple.trees import depths, led, moves, plain_tree, recoupled, tree_of, way

NAMES = "abcdef"
MANY = {1: 1, 2: 1, 3: 3, 4: 15, 5: 105, 6: 945}


def names_of(tree):
    return {tree} if isinstance(tree, str) else names_of(tree[0]) | names_of(tree[1])


def plain_told(tree):
    """The plain tree, by the least of all names on each side."""
    if isinstance(tree, str):
        return tree
    sides = sorted([plain_told(side) for side in tree], key=lambda side: min(names_of(side)))
    return tuple(sides)


def all_plain(names):
    """All plain trees over names: each by putting the last name in at each place of a lesser one."""
    if len(names) == 1:
        return [names[0]]
    found = []
    for tree in all_plain(names[:-1]):
        found += [plain_told(wide) for wide in put_in(tree, names[-1])]
    return found


def put_in(tree, name):
    found = [(tree, name)]
    if not isinstance(tree, str):
        found += [(side, tree[1]) for side in put_in(tree[0], name)]
        found += [(tree[0], side) for side in put_in(tree[1], name)]
    return found


def clusters(tree):
    """The sets of names below each joint: two trees are the same but for sides where these are."""
    if isinstance(tree, str):
        return set()
    return clusters(tree[0]) | clusters(tree[1]) | {frozenset(names_of(tree))}


def one_move_apart(one, other):
    """Whether one move leads from one to the other: all sets but one are the same."""
    return len(clusters(one) - clusters(other)) == 1


class Plain(unittest.TestCase):
    def test_known_ones(self):
        for tree, due in [("a", "a"), (("b", "a"), ("a", "b")), (("c", ("b", "a")), (("a", "b"), "c")),
                          ((("d", "c"), ("b", "a")), (("a", "b"), ("c", "d"))), (("b", ("z", "aa")), (("aa", "z"), "b")),
                          ((("e", ("b", "d")), ("c", "a")), (("a", "c"), (("b", "d"), "e")))]:
            self.assertEqual(plain_tree(tree), due)

    def test_drawn_ones(self):
        luck = random.Random(21)
        for at in range(100):
            names = luck.sample(["a", "b", "c", "aa", "ab", "zzzzzzzz", "m", "ba"], luck.randint(1, 6))
            tree = drawn_tree(luck, names)
            plain = plain_tree(tree)
            self.assertEqual(plain, plain_told(tree))
            self.assertEqual(plain_tree(plain), plain)
            self.assertEqual(clusters(plain), clusters(tree))

    def test_all_of_them(self):
        for many, count in MANY.items():
            every = all_plain(NAMES[:many])
            self.assertEqual(len(set(every)), count)


class Moves(unittest.TestCase):
    def test_against_all_plain_trees(self):
        for many in range(1, 6):
            every = all_plain(NAMES[:many])
            for tree in every if many < 5 else every[::4]:
                told = moves(tree)
                self.assertIs(type(told), list)
                self.assertEqual(told, sorted([other for other in every if one_move_apart(tree, other)], key=str))
                self.assertEqual(len(told), max(0, 2 * (many - 2)))

    def test_sides_are_not_looked_at(self):
        luck = random.Random(12)
        for at in range(40):
            tree = drawn_tree(luck, NAMES[:luck.randint(1, 6)])
            self.assertEqual(moves(tree), moves(plain_tree(tree)))
        self.assertEqual(moves("a"), [])
        self.assertEqual(moves(("b", "a")), [])
        self.assertEqual(moves(("c", ("b", "a"))), [("a", ("b", "c")), (("a", "c"), "b")])

    def test_rising_by_their_texts(self):
        told = moves((("a", "b"), ("c", "d")))
        # The sign ' comes ahead of the bracket.
        self.assertEqual(told, [("a", ("b", ("c", "d"))), (("a", ("c", "d")), "b"), ((("a", "b"), "c"), "d"),
                                ((("a", "b"), "d"), "c")])
        self.assertEqual([str(tree) for tree in told], sorted(str(tree) for tree in told))
        luck = random.Random(13)
        for at in range(20):
            told = moves(drawn_tree(luck, ["a", "ab", "b", "ba", "c", "abc"]))
            self.assertEqual([str(tree) for tree in told], sorted(str(tree) for tree in told))
            self.assertEqual(len(told), 8)


class Depths(unittest.TestCase):
    def test_all_trees_and_their_depths(self):
        luck = random.Random(14)
        for many, count in MANY.items():
            tree = drawn_tree(luck, NAMES[:many])
            told = depths(tree)
            self.assertIs(type(told), dict)
            self.assertEqual(set(told), set(all_plain(NAMES[:many])))
            self.assertEqual([shape for shape in told if told[shape] == 0], [plain_tree(tree)])
            for shape in list(told)[::7]:
                near = [told[other] for other in moves(shape)]
                self.assertTrue(all(abs(told[shape] - depth) <= 1 for depth in near))
                # Each but the first has one that is nearer: so the depth is the fewest moves.
                self.assertTrue(told[shape] == 0 or told[shape] - 1 in near)

    def test_a_told_dict_is_the_askers_own(self):
        told = depths(("a", ("b", "c")))
        told.clear()
        self.assertEqual(depths(("a", ("b", "c"))), {("a", ("b", "c")): 0, (("a", "b"), "c"): 1, (("a", "c"), "b"): 1})


class Ways(unittest.TestCase):
    def test_as_short_as_depths_tells(self):
        luck = random.Random(15)
        for many in range(1, 7):
            for at in range(4):
                one, other = drawn_tree(luck, NAMES[:many]), drawn_tree(luck, NAMES[:many])
                told = way(one, other)
                self.assertIs(type(told), list)
                self.assertEqual((told[0], told[-1]), (plain_tree(one), plain_tree(other)))
                self.assertEqual(len(told) - 1, depths(one)[plain_tree(other)])
                for ahead, behind in zip(told, told[1:]):
                    self.assertIn(behind, moves(ahead))

    def test_short_ones(self):
        self.assertEqual(way("a", "a"), ["a"])
        self.assertEqual(way(("b", "a"), ("a", "b")), [("a", "b")])
        self.assertEqual(way((("c", "a"), "b"), ("a", ("b", "c"))), [(("a", "c"), "b"), ("a", ("b", "c"))])

    def test_other_names(self):
        for one, other in [("a", "b"), (("a", "b"), ("a", "c")), (("a", "b"), "a"), (("a", "b"), (("a", "b"), "c"))]:
            refused(self, NoTree, way, one, other)
            refused(self, NoTree, way, other, one)


class Led(unittest.TestCase):
    def check(self, labelled, steps):
        told = led(labelled, steps)
        self.assertIs(type(told), list)
        self.assertEqual(len(told), len(steps))
        sizes = dict(turns_of(labelled))
        for shape, numbers in zip(steps, told):
            self.assertIs(type(numbers), dict)
            due = {}
            for other in labelled_of(shape, sizes):
                if other[-1] == labelled[-1]:
                    number = recoupled(labelled, other)
                    if number != NOUGHT:
                        due[other] = number
            self.assertEqual(numbers, due)
            self.assertEqual(total(times(number, number) for number in numbers.values()), exact(1))
        return told

    def test_along_ways_there_and_back(self):
        luck = random.Random(16)
        for many, most in [(2, 60), (3, 60), (4, 60), (4, 120), (5, 48), (6, 64)]:
            for at in range(4):
                turns = drawn_turns(luck, many, most=most, names=NAMES[:many], highest=4)
                labelled = drawn_labelled(luck, turns)
                steps = way(tree_of(labelled), drawn_tree(luck, NAMES[:many]))
                told = self.check(labelled, steps + steps[-2::-1])
                self.assertEqual(told[0], told[-1])

    def test_along_whatever_ways(self):
        luck = random.Random(17)
        for at in range(10):
            turns = drawn_turns(luck, 4, most=48, names=NAMES[:4], highest=4)
            labelled = drawn_labelled(luck, turns)
            steps = [plain_tree(tree_of(labelled))]
            for step in range(6):
                steps.append(luck.choice(moves(steps[-1])))
            self.check(labelled, steps)
            # Another way to the same tree ends alike.
            self.assertEqual(led(labelled, steps)[-1], led(labelled, way(steps[0], steps[-1]))[-1])

    def test_the_first_is_the_sign_of_the_sides(self):
        a, b, c = ("a", 1), ("b", 1), ("c", 2)
        self.assertEqual(led(a, ["a"]), [{a: exact(1)}])
        self.assertEqual(led((a, b, 0), [("a", "b")]), [{(a, b, 0): exact(1)}])
        self.assertEqual(led((b, a, 0), [("a", "b")]), [{(a, b, 0): exact(-1)}])
        self.assertEqual(led((b, a, 2), [("a", "b")]), [{(a, b, 2): exact(1)}])
        self.assertEqual(led((c, (b, a, 2), 2), [(("a", "b"), "c")]), [{((a, b, 2), c, 2): exact(-1)}])
        self.assertEqual(led((c, (b, a, 0), 2), [(("a", "b"), "c")]), [{((a, b, 0), c, 2): exact(-1)}])

    def test_numbers_of_0_are_left_out(self):
        luck = random.Random(18)
        for at in range(10):
            labelled = drawn_labelled(luck, tuple((name, 2) for name in "abcd"))
            steps = way(tree_of(labelled), drawn_tree(luck, "abcd"))
            for numbers in led(labelled, steps):
                for number in numbers.values():
                    self.assertIsInstance(number, Exact)
                    self.assertNotEqual(number, NOUGHT)

    def test_long_ways(self):
        labelled = (((("a", 1), ("b", 1), 2), (("c", 1), ("d", 1), 2), 2), (("e", 1), ("f", 1), 0), 2)
        there = way(tree_of(labelled), ((("a", "f"), ("b", "e")), ("c", "d")))
        steps = there[:1]
        for turn in range(20):
            steps = steps + there[1:] + there[-2::-1]
        told = led(labelled, steps)
        self.assertEqual(told[-1], told[0])
        self.assertEqual(len(told), len(steps))

    def test_told_dicts_are_the_askers_own(self):
        labelled = ((("a", 1), ("b", 1), 2), ("c", 1), 1)
        steps = [(("a", "b"), "c"), (("a", "c"), "b"), (("a", "b"), "c")]
        before = [dict(numbers) for numbers in led(labelled, steps)]
        told = led(labelled, steps)
        for numbers in told:
            numbers.clear()
        told.clear()
        self.assertEqual(led(labelled, steps), before)
        self.assertEqual(before[0], before[2])
        self.assertEqual(len(steps), 3)


class NoWays(unittest.TestCase):
    labelled = ((("b", 1), ("a", 1), 2), ("c", 1), 1)
    first = (("a", "b"), "c")

    def test_what_is_no_way(self):
        led(self.labelled, [self.first, (("a", "c"), "b")])
        for steps in [*OTHER_THINGS, (self.first,), [(("a", "c"), "b")], [(("b", "a"), "c")], [("c", ("a", "b"))],
                      [self.first, self.first], [self.first, (("c", "a"), "b")], [self.first, ("b", ("a", "c"))],
                      [self.first, (("a", "c"), "d")], [self.first, ("a", "b")], [list(self.first)],
                      [self.first, [("a", "c"), "b"]], [self.first, None], [None, self.first], [self.first, True], self.first,
                      [self.first, (("a", "c"), "b"), (("a", "c"), "b")], [self.first, self.labelled], [self.labelled],
                      [tree_of(self.labelled)], {self.first: 0}, "abc"]:
            refused(self, NoWay, led, self.labelled, steps)

    def test_two_moves_at_once(self):
        luck = random.Random(19)
        for at in range(30):
            labelled = drawn_labelled(luck, tuple((name, 1) for name in "abcde"))
            first = plain_tree(tree_of(labelled))
            far = [shape for shape, depth in depths(first).items() if depth == 2]
            refused(self, NoWay, led, labelled, [first, luck.choice(far)])

    def test_too_wide_last(self):
        wide = ((("b", 7), ("a", 7), 2), ("c", 7), 7)
        first = (("a", "b"), "c")
        refused(self, TooWide, led, wide, [first])
        refused(self, TooWide, led, wide, [first, (("a", "c"), "b")])
        for steps in ([], [(("b", "a"), "c")], None, [first, first]):
            refused(self, NoWay, led, wide, steps)
        just = ((("b", 7), ("a", 7), 2), ("c", 6), 6)
        self.assertEqual(len(led(just, [first, (("a", "c"), "b")])), 2)
        eight = tuple((name, 8) for name in "ab")
        many = ((eight[0], eight[1], 16), ("c", 5), 11)
        self.assertEqual(len(led(many, [first])), 1)
        for one, other in product([many], [("c", 6)]):
            refused(self, TooWide, led, (one[0], other, 10), [first])


if __name__ == "__main__":
    unittest.main()
