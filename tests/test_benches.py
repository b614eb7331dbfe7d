"""Promises 24, 25, 26: the bench, its deeds, its refusals, taking back and doing again."""

import random
import unittest

from tests.plain import NOT_WHOLE
from tests.stood import HALVES, NOT_NAMES, NOUGHT, OTHER_THINGS, drawn_labelled, drawn_turns, left_by, places_of
from tests.test_halves import NOT_HALVES
from tests.test_trees import SIX, wrong_labelled
from tests.told import LONG, refused, together
from turncouple.benches import MOST, Bench
from turncouple.errors import (Empty, NoDeed, NoHalf, NoName, NoNumber, NoOffset, NoQuestion, NoSize, NoStanding,
                               NothingDone, NotParted, NoTree, TooWide)
from turncouple.halves import turned_standing
from turncouple.numbers import exact
from turncouple.standings import Standing, beside, is_along, scaled
from turncouple.trees import stands

GOOD = ((3, 5), (4, 5))
PAIR = (("a", 1), ("b", 1), 0)
TREE = ((("c", 2), ("d", 1), 1), ("e", 1), 2)


def pair_of(one, other):
    return (one, 1), (other, 1), 0


def bench_of(*deeds, most=128):
    bench = Bench(most=most)
    bench.run(list(deeds))
    return bench


def all_of(bench):
    """All that a bench tells of itself."""
    standing = bench.standing() if bench.names() else None
    told = None if standing is None else (standing.turns(), standing.numbers())
    return told, bench.names(), bench.done(), bench.square(), bench.most


class Checked(unittest.TestCase):
    def refuse(self, kind, bench, deed, name=None):
        """A deed is refused with this very class, alone and in runs, and the bench is as it was."""
        before = all_of(bench)
        fine = ("put", "zzzz", 0, 0)
        works = [lambda: bench.do(deed), lambda: bench.run([deed]), lambda: bench.run([deed, fine]),
                 lambda: bench.run([deed, ("put", "a", None, None)])]
        if 0 < len(bench.names()) < 6:
            works.append(lambda: bench.run([fine, ("let", ["zzzz"]), deed]))
        for work in works:
            with self.assertRaises(kind) as caught:
                work()
            self.assertIs(type(caught.exception), kind)
            if kind is NoName:
                self.assertEqual(caught.exception.name, name)
                self.assertIs(type(caught.exception.name), type(name))
            self.assertEqual(all_of(bench), before)


class Made(unittest.TestCase):
    def test_most(self):
        self.assertEqual(MOST, 100)
        for most in (1, 2, 99, 100, 127, 128):
            self.assertEqual(Bench(most=most).names(), [])
        for most in [*NOT_WHOLE, 0, -1, 129, 1000, LONG, -LONG]:
            with self.assertRaises(NoNumber) as caught:
                Bench(most=most)
            self.assertIs(type(caught.exception), NoNumber)

    def test_at_first(self):
        bench = Bench()
        self.assertEqual((bench.names(), bench.done(), bench.square()), ([], [], exact(1)))
        refused(self, NoStanding, bench.standing)
        refused(self, NothingDone, bench.undo)
        refused(self, NothingDone, bench.again)

    def test_how_many_products_may_be(self):
        for most in (1, 3, 9, 100, 127, 128):
            bench = Bench(most=most)
            many = 1
            for name, size in [("a", 0), ("b", 2), ("c", 2), ("d", 7), ("e", 1), ("f", 8)]:
                if many * (size + 1) <= most:
                    bench.do(("put", name, size, size))
                    many *= size + 1
                else:
                    refused(self, TooWide, bench.do, ("put", name, size, size))
            self.assertLessEqual(many, most)
        bench = Bench()
        bench.do(("put", "a", 8, 0))
        bench.do(("put", "b", 8, 0))
        refused(self, TooWide, bench.do, ("put", "c", 1, 1))
        wide = Bench(most=128)
        wide.run([("put", "a", 7, 7), ("put", "b", 7, 7), ("put", "c", 1, 1)])
        refused(self, TooWide, wide.do, ("put", "d", 1, 1))
        wide.do(("put", "d", 0, 0))


class Deeds(Checked):
    def test_do_and_run_tell_nothing(self):
        bench = Bench()
        for told in [bench.do(("put", "a", 1, 1)), bench.run([]), bench.run([("put", "b", 1, 1)]), bench.undo(),
                     bench.again()]:
            self.assertIsNone(told)

    def test_put(self):
        bench = Bench()
        bench.do(("put", "b", 2, 0))
        self.assertEqual(bench.standing(), Standing((("b", 2),), {(0,): exact(1)}))
        bench.do(("put", "a", 1, -1))
        self.assertEqual(bench.standing(), Standing((("b", 2), ("a", 1)), {(0, -1): exact(1)}))
        self.assertEqual(bench.names(), ["b", "a"])
        for size in range(9):
            for offset in range(-size, size + 1, 2):
                one = Bench()
                one.do(("put", "abcdefgh", size, offset))
                self.assertEqual(one.standing().numbers(), {(offset,): exact(1)})

    def test_joined(self):
        bench = Bench()
        bench.do(("joined", PAIR, 0))
        self.assertEqual(bench.standing(), stands(PAIR, offset=0))
        bench.do(("joined", TREE, -2))
        self.assertEqual(bench.standing(), beside(stands(PAIR, offset=0), stands(TREE, offset=-2)))
        self.assertEqual(bench.names(), list("abcde"))
        bench.do(("joined", ("f", 1), 1))
        self.assertEqual(bench.names(), list("abcdef"))

    def test_turn(self):
        bench = bench_of(("joined", TREE, 0), ("put", "a", 1, 1))
        before = bench.standing()
        bench.do(("turn", ["a", "c"], GOOD))
        self.assertEqual(bench.standing(), turned_standing(before, ["c", "a"], GOOD))
        bench.do(("turn", ["d"], HALVES[5]))
        self.assertEqual(bench.standing(), turned_standing(turned_standing(before, ["c", "a"], GOOD), ["d"], HALVES[5]))
        self.assertEqual(bench.square(), exact(1))

    def test_keep(self):
        bench = bench_of(("put", "a", 1, 1), ("put", "b", 1, -1))
        bench.do(("keep", ("size", ["b", "a"]), 0))
        half = exact(1, bottom=2)
        self.assertEqual(bench.standing().numbers(), {(1, -1): half, (-1, 1): together(-1, half)})
        self.assertEqual(bench.square(), half)
        bench.do(("keep", ("offset", ["a"]), 1))
        self.assertEqual(bench.standing().numbers(), {(1, -1): half})
        bench.do(("keep", ("size", ["a"]), 1))
        bench.do(("keep", ("offset", ["b", "a"]), 0))
        self.assertEqual(bench.square(), exact(1, bottom=4))

    def test_keep_against_plain_sums(self):
        luck = random.Random(24)
        seen = 0
        for at in range(25):
            turns = drawn_turns(luck, luck.randint(2, 4), most=36, highest=3)
            bench = Bench(most=128)
            for name, size in turns:
                bench.do(("put", name, size, luck.randrange(-size, size + 1, 2)))
            names = [name for name, size in turns]
            bench.do(("turn", names, luck.choice(HALVES[4:])))
            bench.do(("turn", names[:1], luck.choice(HALVES[4:])))
            for step in range(3):
                word = luck.choice(["size", "size", "offset"])
                question = (word, luck.sample(names, luck.randint(1, len(names))))
                outcomes = [outcome for outcome, share in bench.shares(question)]
                outcome = luck.choice(outcomes)
                due = left_by(turns, bench.standing().numbers(), question, outcome)
                bench.do(("keep", question, outcome))
                self.assertEqual(bench.standing().numbers(), due)
                self.assertEqual(bench.shares(question), [(outcome, exact(1))])
                seen += len(outcomes) > 1
                bench.do(("turn", luck.sample(names, 1), luck.choice(HALVES)))
        self.assertGreater(seen, 30)

    def test_let(self):
        bench = bench_of(("put", "a", 1, 1), ("joined", TREE, 2), ("put", "b", 2, 0), ("turn", ["a", "b"], GOOD))
        alone = bench_of(("joined", TREE, 2)).standing()
        before = bench.standing()
        bench.do(("let", ["b", "a"]))
        self.assertEqual(bench.names(), ["c", "d", "e"])
        # What stays is told at the least offsets of a and b.
        least = min(places for places in before.numbers())
        self.assertEqual((least[0], least[4]), (-1, -2))
        due = {places[1:4]: number for places, number in before.numbers().items() if (places[0], places[4]) == (-1, -2)}
        self.assertEqual(bench.standing(), Standing(alone.turns(), due))
        self.assertTrue(is_along(bench.standing(), alone) or is_along(scaled(bench.standing(), exact(-1)), alone))

    def test_let_at_the_least_offsets_in_the_benchs_order(self):
        bench = bench_of(("put", "a", 2, 0), ("put", "x", 1, 1), ("put", "b", 1, -1), ("turn", ["x"], GOOD))
        bench.do(("let", ["b", "a"]))
        self.assertEqual(bench.standing().numbers(), {(-1,): exact(4, bottom=5), (1,): exact(3, bottom=5)})
        bench = bench_of(("put", "a", 1, 1), ("put", "b", 1, 1), ("put", "c", 1, 1), ("turn", ["a", "b"], GOOD),
                         ("keep", ("offset", ["a", "b"]), 0))
        bench.do(("keep", ("offset", ["b"]), 1))
        bench.do(("let", ["b", "a"]))
        self.assertEqual(bench.standing().numbers(), {(1,): exact(12, bottom=25)})

    def test_let_some_that_stand_jointly(self):
        bench = bench_of(("joined", PAIR, 0), ("put", "c", 1, 1))
        for names in (["a"], ["b"], ["a", "c"], ["c", "b"], ["a", "b", "c"], ["c", "b", "a"]):
            self.refuse(NotParted, bench, ("let", names))
        bench.do(("keep", ("offset", ["a"]), 1))
        bench.do(("let", ["a"]))
        self.assertEqual(bench.names(), ["b", "c"])
        bench.do(("let", ["c"]))
        self.assertEqual(bench.standing().numbers(), {(-1,): exact(1, bottom=2, root=2)})
        self.refuse(NotParted, bench, ("let", ["b"]))

    def test_let_gives_room(self):
        bench = Bench(most=4)
        bench.run([("put", "a", 1, 1), ("put", "b", 1, 1)])
        self.refuse(TooWide, bench, ("put", "c", 1, 1))
        bench.run([("let", ["a"]), ("put", "a", 1, -1)])
        self.assertEqual(bench.names(), ["b", "a"])


class Refused(Checked):
    def test_no_deed(self):
        for bench in (Bench(), bench_of(("joined", PAIR, 0))):
            deeds = [*OTHER_THINGS, "put", ("put",), ("put", "a"), ("put", "x", 1), ("put", "x", 1, 1, 1), ["put", "x", 1, 1],
                     ("puts", "x", 1, 1), ("Put", "x", 1, 1), ("joined",), ("joined", ("x", 1)), ("joined", ("x", 1), 1, 1),
                     ("turn",), ("turn", ["a"]), ("turn", ["a"], GOOD, GOOD), ("keep",), ("keep", ("size", ["a"])),
                     ("keep", ("size", ["a"]), 0, 0), ("let",), ("let", ["a"], ["b"]), (None, "x", 1, 1), (True, ["a"]),
                     (["put"], "x", 1, 1), (("put",), "x", 1, 1), ({}, ["a"]), (exact(1), ["a"]), ("undo",), ("",), ()]
            for names in [[], ["a", "a"], ["z", "z"], ["a", "b", "a"], [None, None], [["a"], ["a"]], ("a",), "a", None, {"a": 1},
                          True, 1, (), {}, [(), ()], [exact(1), exact(1)]]:
                deeds += [("let", names), ("turn", names, GOOD), ("turn", names, None)]
            for deed in deeds:
                self.refuse(NoDeed, bench, deed)

    def test_run_of_what_is_no_list(self):
        bench = bench_of(("joined", PAIR, 0))
        before = all_of(bench)
        for thing in [thing for thing in OTHER_THINGS if thing != []] + [("put", "c", 1, 1), (("put", "c", 1, 1),)]:
            refused(self, NoDeed, bench.run, thing)
            self.assertEqual(all_of(bench), before)
        for thing in [[[("put", "c", 1, 1)]], [[]], [None], ["put"], [("put", "c", 1, 1), []]]:
            refused(self, NoDeed, bench.run, thing)
            self.assertEqual(all_of(bench), before)

    def test_put(self):
        bench = bench_of(("joined", PAIR, 0), most=8)
        for name in [*NOT_NAMES, "a", "b"]:
            for size, offset in [(1, 1), (None, None), (9, 1), (8, 8), (1, 0)]:
                self.refuse(NoName, bench, ("put", name, size, offset), name)
        for size in [*NOT_WHOLE, 9, 40, 41, -1, LONG]:
            for offset in (0, 1, None):
                self.refuse(NoSize, bench, ("put", "c", size, offset))
        for offset in [*NOT_WHOLE, 1, 10, -10, 7, LONG]:
            self.refuse(NoOffset, bench, ("put", "c", 8, offset))
        self.refuse(TooWide, bench, ("put", "c", 8, 0))
        self.refuse(TooWide, bench, ("put", "c", 2, 0))
        bench.do(("put", "c", 1, 1))

    def test_six_turns(self):
        bench = bench_of(*[("put", name, 0, 0) for name in "abcdef"])
        self.refuse(TooWide, bench, ("put", "g", 0, 0))
        self.refuse(NoName, bench, ("put", "f", 0, 0), "f")
        self.refuse(TooWide, bench, ("joined", ("g", 0), 0))
        five = bench_of(*[("put", name, 0, 0) for name in "abcde"])
        self.refuse(TooWide, five, ("joined", (("f", 0), ("g", 0), 0), 0))
        five.do(("put", "f", 0, 0))

    def test_joined(self):
        bench = bench_of(("put", "a", 1, 1), ("put", "q", 1, 1), most=16)
        for thing in wrong_labelled():
            for offset in (0, None):
                self.refuse(NoTree, bench, ("joined", thing, offset))
        for labelled, name in [(("a", 1), "a"), ((("b", 1), ("q", 1), 0), "q"), ((("q", 1), ("a", 1), 0), "q"), (SIX, "a"),
                               ((("b", 1), (("a", 8), ("q", 1), 7), 8), "a")]:
            for offset in (0, None, 40):
                self.refuse(NoName, bench, ("joined", labelled, offset), name)
        for offset in [*NOT_WHOLE, 1, 4, -4, LONG]:
            self.refuse(NoOffset, bench, ("joined", TREE, offset))
        wide = (("b", 8), ("c", 8), 16)
        self.refuse(NoOffset, bench, ("joined", wide, 17))
        for offset in (-16, 0, 16):
            self.refuse(TooWide, bench, ("joined", wide, offset))
        self.refuse(TooWide, bench, ("joined", TREE, 0))
        self.refuse(TooWide, Bench(most=128), ("joined", SIX, 40))
        self.refuse(TooWide, Bench(), ("joined", SIX, 0))

    def test_turn(self):
        for bench in (Bench(), bench_of(("joined", PAIR, 0))):
            for thing in [*NOT_NAMES, "z", "ab", ["a"], ("a",)]:
                for half in (GOOD, None):
                    self.refuse(NoName, bench, ("turn", [thing], half), thing)
                    if bench.names():
                        self.refuse(NoName, bench, ("turn", ["b", thing, "zz"], half), thing)
        bench = bench_of(("joined", PAIR, 0))
        for half in NOT_HALVES:
            self.refuse(NoHalf, bench, ("turn", ["b", "a"], half))

    def test_let(self):
        for bench in (Bench(), bench_of(("joined", PAIR, 0))):
            for thing in [*NOT_NAMES, "z", "ab", ["a"], ("a",)]:
                self.refuse(NoName, bench, ("let", [thing]), thing)
                if bench.names():
                    self.refuse(NoName, bench, ("let", ["b", "a", thing, "zz"]), thing)

    def test_keep(self):
        for bench in (Bench(), bench_of(("joined", PAIR, 0))):
            for question in wrong_questions():
                for outcome in (0, None):
                    self.refuse(NoQuestion, bench, ("keep", question, outcome))
            for word in ("size", "offset"):
                for thing in [*NOT_NAMES, "z", "ab", ["a"], ("a",)]:
                    self.refuse(NoName, bench, ("keep", (word, [thing]), None), thing)
                    if bench.names():
                        self.refuse(NoName, bench, ("keep", (word, ["b", thing, "a", "zz"]), 0), thing)

    def test_empty(self):
        bench = bench_of(("put", "a", 1, 1), ("put", "b", 1, 1), ("put", "c", 0, 0))
        for outcome in [*NOT_WHOLE, 0, 1, 4, -2, LONG, -LONG]:
            self.refuse(Empty, bench, ("keep", ("size", ["a", "b"]), outcome))
            self.refuse(Empty, bench, ("keep", ("offset", ["a", "b"]), outcome))
        # Truths are no outcomes where 0 and 1 are.
        for question, outcome in [(("size", ["a"]), 1), (("offset", ["b"]), 1), (("size", ["c"]), 0), (("offset", ["c"]), 0)]:
            self.refuse(Empty, bench, ("keep", question, bool(outcome)))
            bench.do(("keep", question, outcome))
        self.refuse(Empty, bench_of(("joined", PAIR, 0)), ("keep", ("size", ["a", "b"]), 2))


def wrong_questions():
    """What is no question by its word and list of names."""
    yield from [thing for thing in OTHER_THINGS]
    yield from ["size", ("size",), ("size", ["a"], 0), ["size", ["a"]], ("sizes", ["a"]), ("Size", ["a"]), (None, ["a"]),
                (True, ["a"]), (["size"], ["a"]), (("size",), ["a"]), ({}, ["a"]), (exact(1), ["a"]), ("", ["a"])]
    for word in ("size", "offset"):
        for names in [[], ["a", "a"], ["z", "z"], ["b", "a", "b"], ("a",), "a", None, True, 1, {"a": 1}, {}, (), "",
                      [None, None], [["z"], ["z"]], exact(1)]:
            yield word, names


class Back(Checked):
    def test_undo_and_again_one_by_one(self):
        deeds = [("put", "a", 2, 0), ("turn", ["a"], GOOD), [("joined", pair_of("b", "c"), 0), ("put", "d", 1, 1)], [],
                 ("keep", ("offset", ["b"]), 1), [("turn", ["d", "a"], HALVES[6])], ("let", ["b", "c"]), ("put", "z", 0, 0)]
        bench = Bench()
        seen = [all_of(bench)]
        for deed in deeds:
            bench.run(deed) if isinstance(deed, list) else bench.do(deed)
            seen.append(all_of(bench))
        self.assertEqual(bench.done(), deeds)
        for turn in range(3):
            for at in reversed(range(len(deeds))):
                bench.undo()
                self.assertEqual(all_of(bench), seen[at])
            refused(self, NothingDone, bench.undo)
            for at in range(1, len(deeds) + 1):
                bench.again()
                self.assertEqual(all_of(bench), seen[at])
            refused(self, NothingDone, bench.again)

    def test_a_new_deed_behind_an_undo(self):
        for work in (lambda bench: bench.do(("put", "c", 1, 1)), lambda bench: bench.run([]),
                     lambda bench: bench.run([("put", "c", 1, 1)])):
            bench = Bench()
            bench.do(("put", "a", 1, 1))
            bench.do(("put", "b", 1, 1))
            bench.undo()
            work(bench)
            before = all_of(bench)
            refused(self, NothingDone, bench.again)
            self.assertEqual(all_of(bench), before)
            bench.undo()
            self.assertEqual(bench.names(), ["a"])
            bench.again()
            self.assertEqual(all_of(bench), before)

    def test_what_is_refused_leaves_the_undone(self):
        bench = Bench()
        bench.do(("put", "a", 1, 1))
        bench.do(("put", "b", 1, 1))
        bench.undo()
        for work, thing in [(bench.do, ("put", "a", 1, 1)), (bench.do, None), (bench.run, None), (bench.run, [None]),
                            (bench.run, [("put", "b", 1, 1), ("put", "b", 1, 1)])]:
            with self.assertRaises(Exception):
                work(thing)
        bench.shares(("size", ["a"]))
        bench.again()
        self.assertEqual(bench.names(), ["a", "b"])

    def test_an_again_is_no_new_deed(self):
        bench = Bench()
        for name in "abcd":
            bench.do(("put", name, 1, 1))
        for turn in range(3):
            bench.undo()
        bench.again()
        bench.again()
        bench.again()
        self.assertEqual(bench.names(), list("abcd"))
        bench.undo()
        bench.undo()
        bench.again()
        bench.undo()
        self.assertEqual(bench.names(), list("ab"))
        bench.again()
        bench.again()
        refused(self, NothingDone, bench.again)

    def test_an_empty_run_stands(self):
        bench = Bench()
        bench.run([])
        self.assertEqual(bench.done(), [[]])
        bench.undo()
        self.assertEqual(bench.done(), [])
        bench.again()
        self.assertEqual(bench.done(), [[]])
        refused(self, NothingDone, bench.again)

    def test_through_drawn_rows(self):
        luck = random.Random(25)
        for turn in range(6):
            bench, past, future = Bench(most=64), [], []
            for step in range(60):
                now = all_of(bench)
                choice = luck.random()
                if choice < 0.3:
                    if past:
                        bench.undo()
                        future.append(now)
                        self.assertEqual(all_of(bench), past.pop())
                    else:
                        refused(self, NothingDone, bench.undo)
                elif choice < 0.5:
                    if future:
                        bench.again()
                        past.append(now)
                        self.assertEqual(all_of(bench), future.pop())
                    else:
                        refused(self, NothingDone, bench.again)
                else:
                    deeds = [drawn_deed(luck, bench) for k in range(luck.choice([1, 1, 2]))]
                    try:
                        bench.do(deeds[0]) if len(deeds) == 1 else bench.run(deeds)
                    except (TooWide, NoName, NotParted, Empty, NoDeed):
                        self.assertEqual(all_of(bench), now)
                    else:
                        past.append(now)
                        future = []


def drawn_deed(luck, bench):
    names = bench.names() or ["a"]
    chosen = luck.sample(names, luck.randint(1, len(names)))
    name = luck.choice("abcdefgh")
    size = luck.randint(0, 2)
    return luck.choice([
        ("put", name, size, luck.randrange(-size, size + 1, 2)), ("turn", chosen, luck.choice(HALVES)),
        ("joined", pair_of(name, luck.choice("stuv")), 0), ("let", chosen[:1]),
        ("keep", (luck.choice(["size", "offset"]), chosen), luck.randint(-2, 3)),
    ])


class Rows(Checked):
    def test_all_or_none(self):
        bench = bench_of(("joined", PAIR, 0))
        good = [("put", "c", 1, 1), ("turn", ["c"], GOOD), ("keep", ("offset", ["c"]), 1), ("let", ["c"]), ("put", "d", 2, 0)]
        bad = [(NoName, ("put", "a", 1, 1)), (NoDeed, None), (Empty, ("keep", ("size", ["a", "b"]), 2)),
               (NotParted, ("let", ["a"])), (TooWide, ("joined", (("u", 8), ("v", 8), 0), 0)), (NoQuestion, ("keep", None, 1)),
               (NoSize, ("put", "x", 9, 1)), (NoOffset, ("put", "x", 2, 1)), (NoTree, ("joined", None, 1))]
        before = all_of(bench)
        for kind, deed in bad:
            for at in range(len(good) + 1):
                row = good[:at] + [deed] + good[at:]
                refused(self, kind, bench.run, row)
                self.assertEqual(all_of(bench), before)
        bench.run(good)
        self.assertEqual(bench.names(), ["a", "b", "d"])
        self.assertEqual(bench.done()[-1], good)
        bench.undo()
        self.assertEqual(all_of(bench), before)

    def test_the_first_refused_goes_first(self):
        bench = Bench()
        refused(self, NoSize, bench.run, [("put", "a", 9, 1), None, ("put", "", 1, 1)])
        refused(self, NoDeed, bench.run, [("put", "a", 1, 1), None, ("put", "", 1, 1)])
        refused(self, NoName, bench.run, [("put", "a", 1, 1), ("put", "", 1, 1), None])

    def test_one_by_one_is_in_a_row(self):
        deeds = [("put", "a", 2, 0), ("joined", pair_of("b", "c"), 0), ("turn", ["a", "b"], GOOD),
                 ("keep", ("size", ["a", "c"]), 1), ("turn", ["c"], HALVES[7]), ("keep", ("offset", ["a", "b", "c"]), 0)]
        one, other = Bench(), Bench()
        for deed in deeds:
            one.do(deed)
        other.run(deeds)
        self.assertEqual(one.standing(), other.standing())
        self.assertEqual((one.done(), other.done()), (deeds, [deeds]))


class Copies(unittest.TestCase):
    def test_what_is_handed_in(self):
        names, question, row = ["a"], ("size", ["a", "b"]), []
        row += [("put", "a", 1, 1), ("put", "b", 1, -1), ("turn", names, GOOD), ("keep", question, 0)]
        bench = Bench()
        bench.run(row)
        bench.do(("turn", names, GOOD))
        before = bench.done()
        names.append("b")
        question[1].clear()
        row.clear()
        self.assertEqual(bench.done(), before)
        self.assertEqual(before[0][2], ("turn", ["a"], GOOD))
        self.assertEqual(before[0][3], ("keep", ("size", ["a", "b"]), 0))
        bench.undo()
        bench.again()
        self.assertEqual(bench.done(), before)

    def test_what_is_told(self):
        bench = bench_of(("joined", PAIR, 0), ("turn", ["a"], GOOD))
        bench.do(("keep", ("offset", ["a"]), 1))
        for tell in (bench.done, bench.names, lambda: bench.shares(("size", ["a", "b"])),
                     lambda: bench.shares_of([("size", ["a", "b"])])):
            told, before = tell(), tell()
            self.assertIs(type(told), list)
            told.reverse()
            told.append(None)
            self.assertEqual(tell(), before)
        done = bench.done()
        done[0][1][1].append("b")
        done[0].clear()
        done[1][1][1].append("c")
        self.assertEqual(bench.done(), [[("joined", PAIR, 0), ("turn", ["a"], GOOD)], ("keep", ("offset", ["a"]), 1)])
        bench.standing().numbers().clear()
        self.assertEqual(len(bench.standing().numbers()), 2)

    def test_two_benches(self):
        one, other = Bench(), Bench(most=4)
        one.do(("put", "a", 1, 1))
        self.assertEqual(other.names(), [])
        other.run([("joined", PAIR, 0)])
        one.undo()
        self.assertEqual((one.names(), other.names()), ([], ["a", "b"]))
        one.again()
        other.undo()
        self.assertEqual((one.names(), other.names()), (["a"], []))
        self.assertEqual((one.done(), other.done()), ([("put", "a", 1, 1)], []))


class Square(unittest.TestCase):
    def test_never_longer_or_shorter(self):
        bench = Bench()
        self.assertEqual(bench.square(), exact(1))
        bench.do(("put", "a", 4, 2))
        bench.do(("turn", ["a"], GOOD))
        self.assertEqual(bench.square(), exact(1))
        bench.do(("keep", ("offset", ["a"]), 0))
        left = bench.square()
        self.assertEqual(left, together(bench.standing().at((0,)), bench.standing().at((0,))))
        bench.do(("joined", pair_of("b", "c"), 0))
        self.assertEqual(bench.square(), left)
        self.assertNotEqual(left, exact(1))

    def test_standing_after_drawn_trees(self):
        luck = random.Random(6)
        for at in range(10):
            labelled = drawn_labelled(luck, drawn_turns(luck, luck.randint(1, 5), most=100))
            bench = Bench()
            bench.do(("joined", labelled, labelled[-1]))
            self.assertEqual(bench.square(), exact(1))
            self.assertEqual(bench.standing(), stands(labelled, offset=labelled[-1]))
            self.assertEqual(set(places_of(bench.standing().turns())) >= set(bench.standing().numbers()), True)
            self.assertNotIn(NOUGHT, bench.standing().numbers().values())


if __name__ == "__main__":
    unittest.main()
