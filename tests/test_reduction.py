"""Promises 4 and 17: the steps of a net, their factors, and reductions."""

import random
import unittest
from itertools import combinations, permutations, product

from tests.netted import all_wrong_nets, drawn_net, plain_worth
from tests.stood import OTHER_THINGS
from tests.told import joins, refused, together
from turncouple.errors import NoNet
from turncouple.nets import can_be, is_reduction, reduced, worth
from turncouple.numbers import Exact, exact, plus
from turncouple.sixes import six

BARE = ((), ())
FOUR = (("a", "e", "f"), ("d", "b", "f"), ("d", "e", "c"), ("a", "b", "c"))
NINE = (("a", "b", "c"), ("d", "e", "f"), ("g", "h", "i"), ("a", "d", "g"), ("b", "e", "h"), ("c", "f", "i"))


def lines(**sizes):
    return tuple(sizes.items())


def told_steps(net):
    """All steps that are there, as the point tells them, rising."""
    points = [set(point) for point in net[1]]
    found = []
    for i, j in combinations(range(len(points)), 2):
        shared = points[i] & points[j]
        if len(shared) == 3:
            found.append(("three", i, j))
        if len(shared) == 2:
            (a,), (b,) = points[i] - shared, points[j] - shared
            if not any(a in point and b in point for point in points):
                found.append(("pair", i, j))
    for i, j, k in combinations(range(len(points)), 3):
        if len(points[i] & points[j]) == len(points[j] & points[k]) == len(points[k] & points[i]) == 1:
            found.append(("corner", i, j, k))
    return sorted(found)


def net_behind(net, step):
    """The net behind a step, as the point tells it."""
    word, i, j, *more = step
    own, points = list(net[0]), list(net[1])
    sizes = dict(own)
    shared = set(points[i]) & set(points[j])
    if word == "three":
        return tuple(line for line in own if line[0] not in shared), tuple(points[:i] + points[i + 1:j] + points[j + 1:])
    if word == "pair":
        (a,), (b,) = set(points[i]) - shared, set(points[j]) - shared
        if sizes[a] != sizes[b]:
            return BARE
        named = [tuple(a if name == b else name for name in point) for point in points]
        stay = tuple(line for line in own if line[0] not in shared and line[0] != b)
        return stay, tuple(named[:i] + named[i + 1:j] + named[j + 1:])
    (k,) = more
    three = [points[i], points[j], points[k]]
    inner = {name for one, other in combinations(three, 2) for name in set(one) & set(other)}
    corner = tuple(name for point in three for name in point if name not in inner)
    stay = [corner if at == i else point for at, point in enumerate(points) if at not in (j, k)]
    return tuple(line for line in own if line[0] not in inner), tuple(stay)


class Steps(unittest.TestCase):
    def test_all_that_are_there(self):
        luck = random.Random(17)
        seen = set()
        for at in range(400):
            net = drawn_net(luck, luck.choice([2, 4, 6]), 4, fit=False)
            told = can_be(net)
            self.assertEqual(told, told_steps(net), net)
            self.assertIs(type(told), list)
            seen |= {step[0] for step in told}
        self.assertEqual(seen, {"three", "pair", "corner"})
        self.assertEqual(can_be(BARE), [])

    def test_known_ones(self):
        ones = tuple((name, 2) for name in "abcdef")
        self.assertEqual(can_be((ones, FOUR)), [("corner", 0, 1, 2), ("corner", 0, 1, 3), ("corner", 0, 2, 3),
                                                ("corner", 1, 2, 3)])
        both = (("a", "b", "c"), ("d", "e", "f"), ("c", "b", "a"), ("f", "d", "e"))
        self.assertEqual(can_be((ones, both)), [("three", 0, 2), ("three", 1, 3)])
        # The two further lines of 0 and 1, and those of 2 and 3, each stand at unlike points.
        ring = (("a", "b", "c"), ("b", "a", "d"), ("c", "e", "f"), ("d", "e", "f"))
        self.assertEqual(can_be((ones, ring)), [("pair", 0, 1), ("pair", 2, 3)])
        # Here the two further lines of 0 and 1 stand at one further point.
        met = (("a", "b", "c"), ("a", "b", "d"), ("c", "d", "e"), ("e", "f", "g"), ("f", "h", "i"), ("g", "h", "i"))
        nines = tuple((name, 2) for name in "abcdefghi")
        self.assertNotIn(("pair", 0, 1), can_be((nines, met)))
        self.assertEqual(can_be((nines, NINE)), [])
        self.assertEqual(reduced((nines, NINE)), [])

    def test_the_factor_and_the_net_of_each(self):
        luck = random.Random(4)
        seen = {}
        for at in range(250):
            net = drawn_net(luck, luck.choice([2, 4, 4, 6, 6, 6]), luck.choice([1, 2, 3, 4]), fit=at % 5 > 0)
            for step in can_be(net):
                behind = net_behind(net, step)
                factor = self.factor_of(net, step, behind)
                self.assertEqual(together(factor, worth(behind)), worth(net), (net, step))
                key = step[0], factor == exact(0), worth(net) == exact(0)
                seen[key] = seen.get(key, 0) + 1
        for word in ("three", "pair", "corner"):
            self.assertGreater(seen[(word, False, False)], 40)
            self.assertGreater(seen[(word, True, True)], 3)

    def factor_of(self, net, step, behind):
        """The factor with which is_reduction takes a step: there is just one, found by the worth, else by its square."""
        factor = factor_told(net, step)
        self.assertTrue(is_reduction(net, [(step, factor, behind)]), (net, step, factor))
        for wrong in [plus(factor, exact(1)), together(-1, factor), exact(7)]:
            if wrong != factor:
                self.assertFalse(is_reduction(net, [(step, wrong, behind)]))
        return factor


def order_sign(net, point, order):
    """The sign with which a point's order is made another one."""
    places = [point.index(name) for name in order]
    odd = sum(places[i] > places[j] for i in range(3) for j in range(i + 1, 3)) % 2
    return (-1) ** (odd * (sum(dict(net[0])[name] for name in point) // 2))


def factor_told(net, step):
    """The factor of a step as the point tells it: that of the told order and way about, with the signs till there."""
    word, *places = step
    sizes, points = dict(net[0]), net[1]
    sign, i, j = 1, places[0], places[1]
    at = {name: [k for k, point in enumerate(points) if name in point] for name in sizes}
    shared = [name for name in points[i] if name in points[j]]
    if word == "three":
        return exact(order_sign(net, points[i], points[j]) if joins(*[sizes[name] for name in shared]) else 0)
    if word == "pair":
        d, e = shared
        (a,), (b,) = set(points[i]) - {d, e}, set(points[j]) - {d, e}
        if sizes[a] != sizes[b] or not joins(sizes[a], sizes[d], sizes[e]):
            return exact(0)
        (p,), (q,) = set(at[a]) - {i}, set(at[b]) - {j}
        sign = order_sign(net, points[i], (d, e, a)) * order_sign(net, points[j], (e, d, b))
        turned = (at[a][0] != i) + (at[b][1] != j) + (min(p, q) != q)
        return exact(sign * (-1) ** (turned * sizes[a] + (sizes[a] + sizes[d] + sizes[e]) // 2), bottom=sizes[a] + 1)
    k = places[2]
    (f,), (d,), (e,) = [set(points[x]) & set(points[y]) for x, y in [(i, j), (j, k), (k, i)]]
    (a,), (b,), (c,) = set(points[i]) - {e, f}, set(points[j]) - {d, f}, set(points[k]) - {d, e}
    number = six(*[sizes[name] for name in (a, b, c, d, e, f)])
    if number == exact(0):
        return number
    sign = (-1) ** sizes[e]
    for place, order in [(i, (a, e, f)), (j, (d, b, f)), (k, (d, e, c))]:
        sign *= order_sign(net, points[place], order)
    for name, place in [(b, j), (c, k)]:
        (far,) = set(at[name]) - {place}
        if (place < far) != (i < far):
            sign *= (-1) ** sizes[name]
    return together(sign, number)


class EachOrder(unittest.TestCase):
    """The told order of each step, and every other one."""

    def test_three(self):
        for sizes in product(range(4), repeat=3):
            for one, other in product(permutations("abc"), repeat=2):
                net = (tuple(zip("abc", sizes)), (one, other))
                ((step, factor, behind),) = reduced(net)
                self.assertEqual((step, behind), (("three", 0, 1), BARE))
                self.assertEqual(factor, plain_worth(net) if sum(sizes) < 6 else worth(net))
        for one, other in product(permutations("abc"), repeat=2):
            net = (lines(a=1, b=1, c=4), (one, other))
            self.assertEqual(reduced(net), [(("three", 0, 1), exact(0), BARE)])

    def test_pair_in_the_told_order(self):
        # b begins at the first point and ends at j = 2, a begins at i = 1: the new line begins where b began.
        for a, d, e in [(1, 1, 2), (2, 1, 1), (2, 2, 2), (0, 3, 3), (4, 3, 1), (3, 4, 1), (1, 2, 3), (1, 4, 4), (2, 2, 1)]:
            net = (lines(a=a, b=a, d=d, e=e, x=1, y=2), (("x", "y", "b"), ("d", "e", "a"), ("e", "d", "b"), ("x", "y", "a")))
            self.assertEqual(can_be(net), [("pair", 0, 3), ("pair", 1, 2)])
            behind = (lines(a=a, x=1, y=2), (("x", "y", "a"), ("x", "y", "a")))
            due = exact((-1) ** ((d + e + a) // 2), bottom=a + 1) if joins(a, d, e) else exact(0)
            self.assertTrue(is_reduction(net, [(("pair", 1, 2), due, behind)]))

    def test_pair_in_every_order_and_way_about(self):
        for sizes in [dict(a=1, d=1, e=2), dict(a=2, d=1, e=1), dict(a=3, d=2, e=1)]:
            x, y = {1: (1, 2), 2: (1, 1), 3: (2, 1)}[sizes["a"]]
            own = lines(**sizes, b=sizes["a"], x=x, y=y)
            middle = [("d", "e", "a"), ("e", "d", "b")]
            for one, other in product(permutations(middle[0]), permutations(middle[1])):
                points = [one, other, ("x", "y", "b"), ("y", "x", "a")]
                for order in list(permutations(points))[sizes["a"]::4]:
                    net = (own, tuple(order))
                    i, j = sorted([order.index(one), order.index(other)])
                    step = ("pair", i, j)
                    behind = net_behind(net, step)
                    factor = factor_told(net, step)
                    self.assertEqual(together(factor, worth(behind)), worth(net))
                    self.assertNotEqual(worth(net), exact(0))
                    self.assertTrue(is_reduction(net, [(step, factor, behind)]))

    def test_pair_of_unlike_sizes(self):
        points = (("x", "y", "b"), ("d", "e", "a"), ("e", "d", "b"), ("x", "y", "a"))
        net = (lines(a=2, b=0, d=1, e=1, x=1, y=1), points)
        self.assertEqual(reduced(net), [(("pair", 0, 3), exact(0), BARE)])
        self.assertTrue(is_reduction(net, [(("pair", 1, 2), exact(0), BARE)]))
        self.assertFalse(is_reduction(net, [(("pair", 1, 2), exact(0), (net[0][:1], ()))]))
        self.assertEqual(worth(net), exact(0))

    def test_pair_that_may_not_be_joined(self):
        points = (("x", "y", "b"), ("d", "e", "a"), ("e", "d", "b"), ("x", "y", "a"))
        net = (lines(a=2, b=2, d=0, e=1, x=1, y=1), points)
        behind = (lines(a=2, x=1, y=1), (("x", "y", "a"), ("x", "y", "a")))
        self.assertTrue(is_reduction(net, [(("pair", 1, 2), exact(0), behind)]))
        self.assertFalse(is_reduction(net, [(("pair", 1, 2), exact(0), BARE)]))

    def test_corner_in_every_order_and_way_about(self):
        own = lines(a=1, b=2, c=3, d=2, e=1, f=2)
        others = [(FOUR[0], FOUR[1], FOUR[2]), (("e", "a", "f"), FOUR[1], FOUR[2]), (FOUR[0], FOUR[1], ("c", "e", "d"))]
        for three in others:
            for far in [FOUR[3], ("b", "a", "c"), ("b", "c", "a")]:
                for order in permutations([*three, far]):
                    net = (own, order)
                    self.assertNotEqual(worth(net), exact(0))
                    for step in can_be(net):
                        behind = net_behind(net, step)
                        factor = factor_told(net, step)
                        self.assertEqual(together(factor, worth(behind)), worth(net))
                        self.assertTrue(is_reduction(net, [(step, factor, behind)]))
                        self.assertEqual(len(reduced(net)), 2)


class Reduced(unittest.TestCase):
    def test_at_each_net_the_first(self):
        luck = random.Random(3)
        ends = set()
        for at in range(200):
            net = drawn_net(luck, luck.choice([2, 4, 6, 6, 6]), 4, fit=at % 3 > 0)
            told = reduced(net)
            self.assertIs(type(told), list)
            ahead, factors = net, []
            for row in told:
                self.assertIs(type(row), tuple)
                step, factor, behind = row
                steps = told_steps(ahead)
                due = [step for word in ("three", "pair", "corner") for step in steps if step[0] == word][0]
                self.assertEqual(step, due)
                self.assertEqual(behind, net_behind(ahead, step))
                self.assertIsInstance(factor, Exact)
                ahead = behind
                factors.append(factor)
            self.assertEqual(told_steps(ahead), [])
            self.assertEqual(together(*factors, worth(ahead)), worth(net))
            self.assertTrue(is_reduction(net, told))
            ends.add(ahead == BARE)
        self.assertEqual(ends, {True, False})
        self.assertEqual(reduced(BARE), [])

    def test_along_whatever_steps(self):
        luck = random.Random(44)
        for at in range(80):
            net = drawn_net(luck, 6, 3)
            rows, ahead, factors = [], net, []
            while can_be(ahead):
                step = luck.choice(can_be(ahead))
                row = (step, factor_told(ahead, step), net_behind(ahead, step))
                rows.append(row)
                factors.append(row[1])
                ahead = row[2]
            self.assertTrue(is_reduction(net, rows))
            self.assertEqual(together(*factors, worth(ahead)), worth(net))

    def test_it_goes_on_behind_a_factor_of_0(self):
        points = (("a", "b", "c"), ("a", "b", "c"), ("d", "e", "f"), ("d", "e", "f"))
        net = (lines(a=0, b=1, c=2, d=2, e=2, f=2), points)
        told = reduced(net)
        self.assertEqual([row[:2] for row in told], [(("three", 0, 1), exact(0)), (("three", 0, 1), exact(1))])
        self.assertEqual(told[-1][2], BARE)

    def test_a_told_list_is_the_askers_own(self):
        net = (lines(a=2, b=2, c=2), (("a", "b", "c"), ("a", "b", "c")))
        for work in (reduced, can_be):
            told = work(net)
            told.clear()
            self.assertEqual(len(work(net)), 1)


class IsReduction(unittest.TestCase):
    net = (lines(a=1, b=1, c=2, d=1, e=1, f=2, g=2, h=1, i=1),
           (("a", "b", "c"), ("b", "a", "f"), ("d", "e", "f"), ("e", "d", "g"), ("h", "i", "g"), ("i", "h", "c")))

    def test_right_ones(self):
        told = reduced(self.net)
        self.assertGreater(len(told), 2)
        for many in range(len(told) + 1):
            self.assertTrue(is_reduction(self.net, told[:many]))
        self.assertIs(is_reduction(self.net, told), True)
        self.assertIs(is_reduction(BARE, []), True)

    def test_wrong_ones(self):
        told = reduced(self.net)
        for at, (step, factor, behind) in enumerate(told):
            wrong_rows = [
                (step, together(-1, factor), behind), (step, exact(3), behind), (step, factor, self.net),
                (step, factor, None), (step, None, behind), (None, factor, behind), (step, factor), (step,), (),
                (step, factor, behind, None), [step, factor, behind], None, True, 0, "three", {}, step,
                (list(step), factor, behind), (("three", *step[1:3], 9), factor, behind), (step[:2], factor, behind),
                ((step[0], step[2], step[1]), factor, behind), ((step[0], 0, 6), factor, behind),
                ((step[0], -1, 0), factor, behind), (("four", *step[1:]), factor, behind), ((), factor, behind),
                ((step[0], None, None), factor, behind), ((step[0], "0", "1"), factor, behind),
                (step, factor, list(behind)), (step, factor, (list(behind[0]), behind[1])), (step, factor, BARE),
                (step, factor, (behind[0], behind[1][::-1])), (step, factor, (behind[0][::-1], behind[1])),
                (step, 1, behind), (step, str(factor), behind), (step, factor.parts, behind),
            ]
            for row in wrong_rows:
                if row != told[at]:
                    self.assertIs(is_reduction(self.net, [*told[:at], row, *told[at + 1:]]), False, (at, row))
                    self.assertIs(is_reduction(self.net, [*told[:at], row]), False, (at, row))
        self.assertFalse(is_reduction(self.net, told[1:]))
        self.assertFalse(is_reduction(self.net, told[::-1]))
        self.assertFalse(is_reduction(self.net, told + told[-1:]))
        self.assertFalse(is_reduction(self.net, tuple(told)))

    def test_truths_are_no_places_and_no_sizes(self):
        net = (lines(a=1, b=1, c=0), (("a", "b", "c"), ("a", "b", "c")))
        factor = reduced(net)[0][1]
        self.assertTrue(is_reduction(net, [(("three", 0, 1), factor, BARE)]))
        for places in [(False, True), (0, True), (False, 1)]:
            self.assertIs(is_reduction(net, [(("three", *places), factor, BARE)]), False)
        wide = (net[0] + lines(d=1, e=1, f=0), net[1] + (("d", "e", "f"), ("d", "e", "f")))
        behind = (lines(d=1, e=1, f=0), (("d", "e", "f"),) * 2)
        self.assertTrue(is_reduction(wide, [(("three", 0, 1), factor, behind)]))
        for size in (True, None, "1"):
            for wrong in [lines(d=size, e=1, f=0), lines(d=1, e=size, f=0), lines(d=1, e=1, f=False)]:
                self.assertIs(is_reduction(wide, [(("three", 0, 1), factor, (wrong, behind[1]))]), False)

    def test_what_is_no_list(self):
        for thing in OTHER_THINGS:
            if thing != []:
                self.assertIs(is_reduction(self.net, thing), False)
                self.assertIs(is_reduction(self.net, [thing]), False)

    def test_no_net_goes_ahead(self):
        for net in all_wrong_nets():
            for thing in ([], None, True, reduced(self.net), [None]):
                refused(self, NoNet, is_reduction, net, thing)

    def test_what_is_handed_in_stays(self):
        told = reduced(self.net)
        before = list(told)
        is_reduction(self.net, told)
        self.assertEqual(told, before)


if __name__ == "__main__":
    unittest.main()
