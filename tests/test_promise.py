"""Promise 4, over the whole program: nets, trees, benches and texts at drawn cases."""

import random
import unittest

from tests.netted import drawn_net, plain_worth
from tests.stood import (HALVES, drawn_labelled, drawn_standing, drawn_tree, drawn_turns, fraction, labelled_of, left_by,
                         places_of, square_of)
from tests.told import offsets_of, together, total
from turncouple.benches import Bench
from turncouple.errors import Empty, NoName, NotParted, TooWide
from turncouple.halves import back_half, both_halves, turned, turned_standing
from turncouple.nets import reduced, worth
from turncouple.numbers import exact, plus, times
from turncouple.sixes import nine, six
from turncouple.standings import Standing, added, beside, held, parted, scaled
from turncouple.texts import read_standing, read_tree, show_standing, show_tree
from turncouple.trees import led, recoupled, stands, tree_of, way
from turncouple.turns import joined, may_join


class Nets(unittest.TestCase):
    def test_the_plain_sum_and_the_steps_agree(self):
        luck = random.Random(41)
        for at in range(25):
            net = drawn_net(luck, luck.choice([4, 6]), 2)
            told = reduced(net)
            behind = told[-1][2] if told else net
            self.assertEqual(plain_worth(net), together(*[factor for step, factor, behind in told], worth(behind)))

    def test_sixes_and_nines_as_nets(self):
        luck = random.Random(42)
        points = (("a", "e", "f"), ("d", "b", "f"), ("d", "e", "c"), ("a", "b", "c"))
        for at in range(20):
            lines = tuple((name, luck.choice([1, 2, 2, 3, 4])) for name in "abcdef")
            sizes = [size for name, size in lines]
            self.assertEqual(worth((lines, points)), together((-1) ** sizes[4], six(*sizes)))
        rows = (("a", "b", "c"), ("d", "e", "f"), ("g", "h", "i"))
        columns = tuple(zip(*rows))
        for at in range(20):
            lines = tuple((name, luck.choice([0, 2, 2, 4])) for name in "abcdefghi")
            sizes = dict(lines)
            due = nine(tuple(tuple(sizes[name] for name in row) for row in rows))
            self.assertEqual(worth((lines, rows + columns)), due)


class Trees(unittest.TestCase):
    def test_along_whatever_way(self):
        luck = random.Random(43)
        for at in range(12):
            turns = drawn_turns(luck, luck.randint(3, 5), most=48, names="abcde", highest=4)
            one, other = drawn_labelled(luck, turns), drawn_labelled(luck, turns)
            names = [name for name, size in turns]
            middle = drawn_tree(luck, names)
            short = way(tree_of(one), tree_of(other))
            round_about = way(tree_of(one), middle) + way(middle, tree_of(other))[1:]
            there, far = led(one, short)[-1], led(one, round_about)[-1]
            self.assertEqual(there, far)
            # From one plain labelled tree to the other, whose sides may have a sign of their own.
            (plain, sign), = led(other, [short[-1]])[0].items()
            self.assertEqual(recoupled(one, other), together(sign, there.get(plain, exact(0))))

    def test_through_all_labels_of_a_third_tree(self):
        luck = random.Random(44)
        for at in range(8):
            turns = drawn_turns(luck, 4, most=40, names="abcd", highest=3)
            one, other = drawn_labelled(luck, turns), drawn_labelled(luck, turns)
            third = drawn_tree(luck, "abcd")
            due = total(times(recoupled(one, middle), recoupled(middle, other))
                        for middle in labelled_of(third, dict(turns)))
            self.assertEqual(recoupled(one, other), due)

    def test_a_standing_is_made_of_those_of_a_tree(self):
        luck = random.Random(45)
        for at in range(5):
            turns = drawn_turns(luck, 3, most=24, names="abc", highest=3)
            tree = (turns[0][0], (turns[1][0], turns[2][0]))
            standing = drawn_standing(luck, turns)
            found = Standing(turns, {})
            for labelled in labelled_of(tree, dict(turns)):
                for offset in offsets_of(labelled[-1]):
                    along = stands(labelled, offset=offset)
                    found = added(found, scaled(along, held(along, standing)))
            self.assertEqual(found, standing)


class Turned(unittest.TestCase):
    def test_joined_then_turned(self):
        luck = random.Random(46)
        for at in range(30):
            a, b = luck.randint(0, 4), luck.randint(0, 4)
            c = luck.choice([size for size in range(9) if may_join(a, b, size)])
            half = luck.choice(HALVES)
            w = luck.choice(offsets_of(c))
            for u in offsets_of(a):
                for v in offsets_of(b):
                    one = total(together(turned(a, u, x, half), turned(b, v, w - x, half), joined((a, x), (b, w - x), to=(c, w)))
                                for x in offsets_of(a) if abs(w - x) <= b)
                    other = exact(0)
                    if abs(u + v) <= c:
                        other = together(turned(c, u + v, w, half), joined((a, u), (b, v), to=(c, u + v)))
                    self.assertEqual(one, other)

    def test_one_half_and_then_another(self):
        luck = random.Random(47)
        for at in range(15):
            turns = drawn_turns(luck, 2, most=30, highest=5)
            standing, names = drawn_standing(luck, turns), [name for name, size in turns]
            one, other = luck.choice(HALVES), luck.choice(HALVES)
            both = turned_standing(turned_standing(standing, names, one), names, other)
            self.assertEqual(both, turned_standing(standing, names, both_halves(one, other)))
            self.assertEqual(both, turned_standing(standing, names, both_halves(other, one)))
            self.assertEqual(turned_standing(both, names, back_half(both_halves(one, other))), standing)


class Plain:
    """A bench by plain sums over products: its turns, and its numbers by tuples of offsets."""

    def __init__(self):
        self.turns = ()
        self.numbers = {(): exact(1)}

    def after(self, deed):
        word, *things = deed
        made = Plain()
        made.turns, made.numbers = self.turns, self.numbers
        if word in ("put", "joined"):
            labelled, offset = ((things[0], things[1]), things[2]) if word == "put" else things
            more = stands(labelled, offset=offset)
            made.turns = self.turns + more.turns()
            made.numbers = {places + behind: times(number, other) for places, number in self.numbers.items()
                            for behind, other in more.numbers().items()}
        if word == "turn":
            made.numbers = self.turned(*things)
        if word == "keep":
            made.numbers = left_by(self.turns, self.numbers, *things)
        if word == "let":
            made.turns, made.numbers = self.let(things[0])
        return made

    def turned(self, names, half):
        found = {}
        for places in places_of(self.turns):
            for others, number in self.numbers.items():
                factor = number
                for (name, size), u, v in zip(self.turns, places, others):
                    if name in names:
                        factor = times(factor, turned(size, u, v, half))
                    elif u != v:
                        factor = exact(0)
                found[places] = plus(found.get(places, exact(0)), factor)
        return {places: number for places, number in found.items() if number != exact(0)}

    def let(self, names):
        inside = [at for at, (name, size) in enumerate(self.turns) if name in names]
        outside = [at for at in range(len(self.turns)) if at not in inside]
        least = min(tuple(places[at] for at in inside) for places in self.numbers)
        kept = {places: number for places, number in self.numbers.items() if tuple(places[at] for at in inside) == least}
        return (tuple(self.turns[at] for at in outside),
                {tuple(places[at] for at in outside): number for places, number in kept.items()})


class Benches(unittest.TestCase):
    def test_whatever_was_done_before(self):
        luck = random.Random(48)
        words = []
        for turn in range(8):
            bench, plain, past, future = Bench(most=24), Plain(), [], []
            for step in range(30):
                choice = luck.random()
                if choice < 0.15 and past:
                    bench.undo()
                    future.append(plain)
                    plain = past.pop()
                elif choice < 0.25 and future:
                    bench.again()
                    past.append(plain)
                    plain = future.pop()
                else:
                    deeds = [self.drawn_deed(luck, plain)]
                    behind = plain
                    try:
                        bench.do(deeds[0])
                    except (TooWide, NoName, NotParted, Empty):
                        words.append("refused")
                    else:
                        past.append(plain)
                        plain, future = behind.after(deeds[0]), []
                        words.append(deeds[0][0])
                self.same(bench, plain)
        for word in ("put", "joined", "turn", "keep", "let", "refused"):
            self.assertIn(word, words)

    def drawn_deed(self, luck, plain):
        names = [name for name, size in plain.turns] or ["a"]
        chosen = luck.sample(names, luck.randint(1, len(names)))
        name, other = luck.sample("abcdef", 2)
        size = luck.randint(0, 2)
        deeds = [("put", name, size, luck.randrange(-size, size + 1, 2)), ("turn", chosen, luck.choice(HALVES)),
                 ("joined", ((name, 1), (other, 2), luck.choice([1, 3])), luck.choice([-1, 1])), ("let", chosen)]
        outcome = luck.randint(-1, 3)
        return luck.choice([*deeds, deeds[1], ("keep", (luck.choice(["size", "offset"]), chosen), outcome)])

    def same(self, bench, plain):
        self.assertEqual(bench.names(), [name for name, size in plain.turns])
        self.assertEqual(bench.square(), square_of(plain.numbers))
        self.assertGreater(fraction(bench.square()), 0)
        if plain.turns:
            self.assertEqual(bench.standing(), Standing(plain.turns, plain.numbers))
            shares = bench.shares(("size", bench.names()))
            self.assertEqual(sum(fraction(share) for outcome, share in shares), 1)

    def test_let_only_where_parted(self):
        luck = random.Random(49)
        seen = set()
        for at in range(40):
            bench = Bench(most=64)
            bench.run([("joined", (("a", 1), ("b", 1), luck.choice([0, 2])), 0), ("put", "c", 2, luck.choice([-2, 0, 2])),
                       ("put", "d", 1, 1), ("turn", luck.sample("abcd", 2), luck.choice(HALVES))])
            question = luck.choice(["size", "offset"]), luck.sample("abcd", 2)
            bench.do(("keep", question, luck.choice(bench.shares(question))[0]))
            names = luck.sample("abcd", luck.randint(1, 3))
            before = bench.standing()
            told = parted(before, names)
            try:
                bench.do(("let", names))
                seen.add("parted")
                self.assertEqual(told[0], "parted")
                self.assertEqual(bench.names(), [name for name in "abcd" if name not in names])
                back = bench.standing()
                self.assertEqual(beside(told[1], told[2]).numbers() != {}, True)
                # What stays is what was told apart, but for a number.
                self.assertEqual(times(held(back, told[2]), held(back, told[2])),
                                 times(held(back, back), held(told[2], told[2])))
            except NotParted:
                seen.add("joint")
                self.assertEqual(told[0], "joint")
        self.assertEqual(seen, {"parted", "joint"})


class Texts(unittest.TestCase):
    def test_read_as_the_same(self):
        luck = random.Random(50)
        for at in range(40):
            turns = drawn_turns(luck, luck.randint(1, 5), most=64)
            labelled = drawn_labelled(luck, turns)
            self.assertEqual(read_tree(show_tree(labelled)), labelled)
            standing = stands(labelled, offset=luck.choice(offsets_of(labelled[-1])))
            turned_one = turned_standing(standing, [turns[0][0]], luck.choice(HALVES))
            for one in (standing, turned_one, scaled(standing, plus(exact(1), exact(1, root=7)))):
                self.assertEqual(read_standing(show_standing(one)), one)


if __name__ == "__main__":
    unittest.main()
