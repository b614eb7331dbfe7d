"""Promise 16: what a net is, and its worth."""

import random
import unittest
from itertools import permutations, product

from tests.netted import all_wrong_nets, drawn_net, plain_worth
from tests.told import joins, refused, together
from turncouple.errors import NoNet
from turncouple.nets import can_be, is_reduction, reduced, worth
from turncouple.numbers import Exact, exact
from turncouple.sixes import nine, six

BARE = ((), ())


def theta(sizes, second=("a", "b", "c")):
    return tuple(zip("abc", sizes)), (("a", "b", "c"), second)


class Worth(unittest.TestCase):
    def test_without_lines_and_points(self):
        self.assertEqual(worth(BARE), exact(1))
        self.assertIsInstance(worth(BARE), Exact)

    def test_two_points(self):
        for sizes in product(range(5), repeat=3):
            self.assertEqual(worth(theta(sizes)), exact(1 if joins(*sizes) else 0))
            for order in permutations("abc"):
                even = "".join(order) in ("abc", "bca", "cab")
                mark = 1 if even else (-1) ** (sum(sizes) // 2)
                self.assertEqual(worth(theta(sizes, order)), exact(mark if joins(*sizes) else 0))

    def test_drawn_ones_against_the_plain_sum(self):
        luck = random.Random(16)
        seen = 0
        for many, high, times_drawn in [(2, 4, 20), (4, 4, 20), (4, 2, 60), (6, 1, 60), (6, 2, 40), (6, 3, 4)]:
            for at in range(times_drawn):
                net = drawn_net(luck, many, high, fit=at % 4 > 0)
                self.assertEqual(worth(net), plain_worth(net), net)
                seen += worth(net) != exact(0)
        self.assertGreater(seen, 60)

    def test_parts_that_do_not_reach_one_another(self):
        luck = random.Random(5)
        for at in range(30):
            one, other, third = [drawn_net(luck, 2, 4, names=names) for names in ("abc", "def", "ghi")]
            four = drawn_net(luck, 4, 3, names="defghi")
            for nets in [(one, other), (one, other, third), (one, four)]:
                lines = [line for net in nets for line in net[0]]
                points = [point for net in nets for point in net[1]]
                luck.shuffle(lines)
                # Parts may stand mixed, as long as each keeps its own points in order.
                order = sorted(range(len(points)), key=lambda place: luck.random())
                stay = [net for net in nets for point in net[1]]
                mixed = [stay[place] for place in order]
                queues = {id(net): list(net[1]) for net in nets}
                points = [queues[id(net)].pop(0) for net in mixed]
                due = together(*[worth(net) for net in nets])
                self.assertEqual(worth((tuple(lines), tuple(points))), due)

    def test_a_tetrahedron_is_a_six(self):
        luck = random.Random(6)
        points = (("a", "e", "f"), ("d", "b", "f"), ("d", "e", "c"), ("a", "b", "c"))
        for at in range(60):
            sizes = [luck.randint(0, 4) for k in range(6)]
            if at % 2:
                sizes = [luck.randint(0, 2) * 2 for k in range(6)]
            net = (tuple(zip("abcdef", sizes)), points)
            # The line e is told the other way about than in a corner, a, b, c end where all begin.
            self.assertEqual(worth(net), together((-1) ** sizes[4], six(*sizes)))

    def test_six_points_are_a_nine(self):
        luck = random.Random(9)
        points = (("a", "b", "c"), ("d", "e", "f"), ("g", "h", "i"), ("a", "d", "g"), ("b", "e", "h"), ("c", "f", "i"))
        seen = 0
        for at in range(60):
            sizes = [1] * 9
            while not all(joins(*sizes[k:k + 3]) and joins(*sizes[at // 20::3]) for k in (0, 3, 6)):
                sizes = [luck.randint(0, 4) for k in range(9)]
            net = (tuple(zip("abcdefghi", sizes)), points)
            rows = (tuple(sizes[:3]), tuple(sizes[3:6]), tuple(sizes[6:]))
            self.assertEqual(worth(net), nine(rows))
            seen += nine(rows) != exact(0)
        self.assertGreater(seen, 5)

    def test_two_lines_exchanged_in_a_points_order(self):
        luck = random.Random(7)
        seen = 0
        while seen < 30:
            lines, points = drawn_net(luck, 6, luck.choice([1, 2, 4]))
            if worth((lines, points)) != exact(0):
                seen += 1
                at = luck.randrange(6)
                one, other, third = points[at]
                mark = (-1) ** (sum(size for name, size in lines if name in points[at]) // 2)
                for point in [(other, one, third), (third, other, one), (one, third, other)]:
                    changed = (*points[:at], point, *points[at + 1:])
                    self.assertEqual(worth((lines, changed)), together(mark, worth((lines, points))))

    def test_a_line_turned_about_by_the_order_of_points(self):
        # With two points exchanged just the lines between them and past one another are turned about.
        luck = random.Random(8)
        seen = 0
        while seen < 30:
            lines, points = drawn_net(luck, 4, 3)
            if worth((lines, points)) != exact(0):
                seen += 1
                both = [size for name, size in lines if name in points[1] and name in points[2]]
                changed = (points[0], points[2], points[1], points[3])
                self.assertEqual(worth((lines, changed)), together((-1) ** sum(both), worth((lines, points))))

    def test_the_widest(self):
        points = (("a", "b", "c"), ("d", "e", "f"), ("g", "h", "i"), ("a", "d", "g"), ("b", "e", "h"), ("c", "f", "i"))
        self.assertEqual(worth((tuple((name, 4) for name in "abcdefghi"), points)), nine(((4,) * 3,) * 3))
        wide = tuple((name, 4) for name in "abcdefghi"), (*[("a", "b", "c")] * 2, *[("d", "e", "f")] * 2,
                                                          *[("g", "h", "i")] * 2)
        self.assertEqual(worth(wide), exact(1))


class NoNets(unittest.TestCase):
    works = (worth, reduced, can_be, lambda thing: is_reduction(thing, []), lambda thing: is_reduction(thing, None))

    def test_what_is_no_net(self):
        for thing in all_wrong_nets():
            for work in self.works:
                refused(self, NoNet, work, thing)

    def test_names_and_sizes_at_their_limits(self):
        net = ((("abcdefgh", 4), ("z", 0), ("zz", 4)), (("abcdefgh", "z", "zz"), ("zz", "z", "abcdefgh")))
        self.assertEqual(worth(net), exact(1))

    def test_what_is_handed_in_stays(self):
        net = theta((2, 2, 2))
        for work in self.works:
            work(net)
        self.assertEqual(net, theta((2, 2, 2)))


if __name__ == "__main__":
    unittest.main()
