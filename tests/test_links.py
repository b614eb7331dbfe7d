"""Promise 23: linkings resolved in tensors, and linked again."""

import random
import unittest

from tests.plain import NOT_EXACT, NOT_WHOLE
from tests.stood import NUMBERS, NOUGHT, OTHER_THINGS
from tests.told import LONG, all_offsets, joins, offsets_of, refused, together, total
from turncouple.errors import NoLinking, NoSize
from turncouple.links import linked, rank_of, resolved
from turncouple.numbers import Exact, exact, plus
from turncouple.turns import joined

SIZES = [(0, 0), (1, 1), (2, 1), (1, 2), (3, 0), (0, 4), (2, 2), (3, 4), (8, 8), (7, 8)]
NOT_SIZES = [*NOT_WHOLE, -1, 9, 10, 40, LONG, -LONG]


def drawn_linking(luck, a, b):
    found = {}
    for w, v in all_offsets(b, a):
        if luck.random() < 0.6:
            found[(w, v)] = luck.choice(NUMBERS)
    return found


def without_noughts(linking):
    return {pair: number for pair, number in linking.items() if number != NOUGHT}


def pairs_of(a, b):
    return [(k, q) for k in range(a + b + 1) if joins(a, b, k) for q in offsets_of(k)]


class Resolved(unittest.TestCase):
    def test_the_told_sum_holds(self):
        luck = random.Random(23)
        for a, b in SIZES[:8]:
            for at in range(3):
                linking = drawn_linking(luck, a, b)
                before = dict(linking)
                told = resolved(linking, by=a, to=b)
                self.assertIs(type(told), list)
                places = [(k, q) for k, q, number in told]
                self.assertEqual(places, sorted(set(places)))
                for k, q, number in told:
                    self.assertIn((k, q), pairs_of(a, b))
                    self.assertIsInstance(number, Exact)
                    self.assertNotEqual(number, NOUGHT)
                for w, v in all_offsets(b, a):
                    due = total(together(number, joined((a, v), (k, q), to=(b, w))) for k, q, number in told)
                    self.assertEqual(linking.get((w, v), NOUGHT), due)
                self.assertEqual(linking, before)

    def test_linked_again(self):
        luck = random.Random(32)
        for a, b in SIZES:
            linking = drawn_linking(luck, a, b)
            self.assertEqual(linked(resolved(linking, by=a, to=b), by=a, to=b), without_noughts(linking))
            tensors = [(k, q, luck.choice(NUMBERS)) for k, q in pairs_of(a, b) if luck.random() < 0.4]
            luck.shuffle(tensors)
            before = list(tensors)
            told = linked(tensors, by=a, to=b)
            self.assertEqual(tensors, before)
            self.assertIs(type(told), dict)
            self.assertNotIn(NOUGHT, told.values())
            self.assertEqual(resolved(told, by=a, to=b), sorted([row for row in tensors if row[2] != NOUGHT],
                                                                key=lambda row: row[:2]))

    def test_linked_is_the_told_sum(self):
        for a, b in [(1, 1), (2, 3), (4, 2)]:
            for k, q in pairs_of(a, b):
                due = {(w, v): joined((a, v), (k, q), to=(b, w)) for w, v in all_offsets(b, a)}
                self.assertEqual(linked([(k, q, exact(1))], by=a, to=b), without_noughts(due))

    def test_known_ones(self):
        same = {(1, 1): exact(1), (-1, -1): exact(1)}
        self.assertEqual(resolved(same, by=1, to=1), [(0, 0, exact(1))])
        self.assertEqual(resolved({}, by=1, to=1), [])
        self.assertEqual(resolved({(1, 1): NOUGHT}, by=1, to=1), [])
        self.assertEqual(linked([], by=1, to=1), {})
        self.assertEqual(linked([(0, 0, NOUGHT), (2, 0, NOUGHT)], by=1, to=1), {})
        self.assertEqual(resolved({(0, 2): exact(5)}, by=2, to=0), [(2, -2, together(5, exact(1, root=3)))])
        # w is the offset of b, v that of a: so are they told.
        self.assertEqual(resolved({(2, 0): exact(5)}, by=0, to=2), [(2, 2, exact(5))])

    def test_told_ones_are_the_askers_own(self):
        linking = {(1, 1): exact(1)}
        told = resolved(linking, by=1, to=1)
        told.clear()
        self.assertEqual(len(resolved(linking, by=1, to=1)), 2)
        made = linked([(0, 0, exact(1))], by=1, to=1)
        made.clear()
        self.assertEqual(len(linked([(0, 0, exact(1))], by=1, to=1)), 2)


class Rank(unittest.TestCase):
    def test_of_one_k_of_two_and_of_0(self):
        luck = random.Random(3)
        for a, b in SIZES:
            for k in [k for k in range(a + b + 1) if joins(a, b, k)][:4]:
                numbers = {q: luck.choice(NUMBERS) for q in offsets_of(k)}
                numbers[luck.choice(offsets_of(k))] = exact(2)
                tensors = [(k, q, number) for q, number in numbers.items()]
                told = rank_of(linked(tensors, by=a, to=b), by=a, to=b)
                self.assertEqual((told, type(told)), (k, int))
                for other in range(a + b + 1):
                    if other != k and joins(a, b, other):
                        both = [*tensors, (other, other, exact(1))]
                        self.assertIsNone(rank_of(linked(both, by=a, to=b), by=a, to=b))
            self.assertIsNone(rank_of({}, by=a, to=b))
            self.assertIsNone(rank_of({(b, a): NOUGHT}, by=a, to=b))
        self.assertEqual(rank_of({(1, 1): exact(1), (-1, -1): exact(1)}, by=1, to=1), 0)
        self.assertEqual(rank_of({(1, 1): exact(1), (-1, -1): exact(-1)}, by=1, to=1), 2)


class Refused(unittest.TestCase):
    works = (resolved, linked, rank_of)

    def test_no_size_first(self):
        for work in self.works:
            for thing in NOT_SIZES:
                for given in ({}, [], None, {(5, 5): 1}):
                    refused(self, NoSize, work, given, by=thing, to=1)
                    refused(self, NoSize, work, given, by=1, to=thing)
                    refused(self, NoSize, work, given, by=thing, to=thing)
        for work, given in ((resolved, {}), (linked, []), (rank_of, {})):
            work(given, by=8, to=8)
            work(given, by=0, to=8)

    def test_no_linking(self):
        for work in (resolved, rank_of):
            for thing in [thing for thing in OTHER_THINGS if thing != {}] + [[(1, 1, exact(1))], [((1, 2), exact(1))]]:
                refused(self, NoLinking, work, thing, by=1, to=2)
            for pair in [(), (1,), (2, 1, 1), 2, None, "21", (1, 2), (1, 1), (2, 2), (2, 3), (4, 1), (-4, 1), (2, -3),
                         (2, True), (False, 1), (None, 1), ("2", 1), ((2, 1), 1), True, (LONG, 1), (2, LONG)]:
                refused(self, NoLinking, work, {pair: exact(1)}, by=1, to=2)
                refused(self, NoLinking, work, {(2, -1): exact(1), (0, -1): exact(2), pair: NOUGHT}, by=1, to=2)
            for number in NOT_EXACT:
                refused(self, NoLinking, work, {(2, 1): number}, by=1, to=2)
                refused(self, NoLinking, work, {(0, 1): exact(1), (2, 1): number}, by=1, to=2)

    def test_no_tensors(self):
        good = [(1, 1, exact(1)), (3, -3, NOUGHT), (1, -1, exact(2))]
        linked(good, by=1, to=2)
        for thing in [thing for thing in OTHER_THINGS if thing != []] + [tuple(good), {(1, 1): exact(1)}]:
            refused(self, NoLinking, linked, thing, by=1, to=2)
        for row in [(), (1, 1), (1, 1, exact(1), 1), [1, 1, exact(1)], None, True, 1, "11", {1: 1}, exact(1),
                    (0, 0, exact(1)), (2, 0, exact(1)), (5, 1, exact(1)), (-1, 1, exact(1)), (41, 1, exact(1)),
                    (1, 0, exact(1)), (1, 3, exact(1)), (3, 2, exact(1)), (3, 5, exact(1)), (True, 1, exact(1)),
                    (1, True, exact(1)), (None, 1, exact(1)), ("1", 1, exact(1)), (1, None, exact(1)), (1, "1", exact(1)),
                    ((1,), 1, exact(1)), ([1], 1, exact(1)), (1, [1], exact(1)), (LONG, 1, exact(1)), (1, LONG, exact(1))]:
            refused(self, NoLinking, linked, [row], by=1, to=2)
            refused(self, NoLinking, linked, [(3, 3, exact(1)), row], by=1, to=2)
        for number in NOT_EXACT:
            refused(self, NoLinking, linked, [(1, 1, number)], by=1, to=2)
        for twice in good:
            refused(self, NoLinking, linked, [*good, twice], by=1, to=2)
        refused(self, NoLinking, linked, [(1, 1, exact(1)), (1, 1, plus(exact(1), exact(1)))], by=1, to=2)
        refused(self, NoLinking, linked, [(1, 1, NOUGHT), (1, 1, NOUGHT)], by=1, to=2)


if __name__ == "__main__":
    unittest.main()
