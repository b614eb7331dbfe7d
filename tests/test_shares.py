"""Promises 4, 24 and 26: what a bench tells of questions, against plain sums over products."""

import random
import unittest
from fractions import Fraction
from itertools import product

from tests.stood import (HALVES, NOT_NAMES, OTHER_THINGS, drawn_labelled, drawn_turns, fraction, left_by, outcomes_of,
                         square_of)
from tests.test_benches import bench_of, pair_of, wrong_questions
from tests.told import refused
from turncouple.benches import Bench
from turncouple.errors import NoName, NoQuestion
from turncouple.numbers import Exact, exact

GOOD = ((3, 5), (4, 5))


def drawn_bench(luck, most=36, highest=3, many=(1, 4)):
    """A bench with some turns, put, joined, turned and kept in drawn ways."""
    turns = drawn_turns(luck, luck.randint(*many), most=most, highest=highest)
    names = [name for name, size in turns]
    bench = Bench(most=128)
    if luck.random() < 0.5:
        labelled = drawn_labelled(luck, turns)
        bench.do(("joined", labelled, luck.randrange(-labelled[-1], labelled[-1] + 1, 2)))
    else:
        bench.run([("put", name, size, luck.randrange(-size, size + 1, 2)) for name, size in turns])
    for step in range(luck.randint(1, 3)):
        bench.do(("turn", luck.sample(names, luck.randint(1, len(names))), luck.choice(HALVES)))
    if luck.random() < 0.5:
        question = drawn_question(luck, bench)
        bench.do(("keep", question, luck.choice(bench.shares(question))[0]))
        bench.do(("turn", luck.sample(names, 1), luck.choice(HALVES)))
    return bench


def drawn_question(luck, bench):
    names = bench.names()
    return luck.choice(["size", "size", "offset"]), luck.sample(names, luck.randint(1, len(names)))


def plain_shares(bench, questions):
    """The told list of (outcomes, share), as Fractions, by plain sums over products."""
    turns = bench.standing().turns()
    parts = {(): bench.standing().numbers()}
    whole = fraction(square_of(parts[()]))
    for question in questions:
        behind = {}
        for outcomes, numbers in parts.items():
            for outcome in outcomes_of(turns, question):
                left = left_by(turns, numbers, question, outcome)
                if left:
                    behind[(*outcomes, outcome)] = left
        parts = behind
    return [(outcomes, fraction(square_of(parts[outcomes])) / whole) for outcomes in sorted(parts)]


class Shares(unittest.TestCase):
    def test_known_ones(self):
        half, third = exact(1, bottom=2), exact(1, bottom=3)
        bench = bench_of(("put", "a", 1, 1), ("put", "b", 1, -1), ("put", "c", 2, 0))
        self.assertEqual(bench.shares(("size", ["a", "b"])), [(0, half), (2, half)])
        self.assertEqual(bench.shares(("offset", ["a", "b"])), [(0, exact(1))])
        self.assertEqual(bench.shares(("size", ["c", "a"])), [(1, third), (3, exact(2, bottom=3))])
        self.assertEqual(bench.shares(("size", ["c"])), [(2, exact(1))])
        self.assertEqual(bench.shares_of([("size", ["a", "b"])]), [((0,), half), ((2,), half)])
        self.assertEqual(bench.shares_of([("size", ["a", "b"]), ("offset", ["a"])]),
                         [((k, m), exact(1, bottom=4)) for k in (0, 2) for m in (-1, 1)])
        turned = bench_of(("put", "a", 1, 1), ("turn", ["a"], GOOD))
        self.assertEqual(turned.shares(("offset", ["a"])), [(-1, exact(16, bottom=25)), (1, exact(9, bottom=25))])

    def test_one_question_against_plain_sums(self):
        luck = random.Random(26)
        seen = 0
        for at in range(40):
            bench = drawn_bench(luck)
            before = bench.standing()
            for step in range(2):
                question = drawn_question(luck, bench)
                names = list(question[1])
                told = bench.shares(question)
                self.assertIs(type(told), list)
                for row in told:
                    self.assertIs(type(row), tuple)
                    self.assertIs(type(row[0]), int)
                    self.assertIsInstance(row[1], Exact)
                due = plain_shares(bench, [question])
                self.assertEqual([((outcome,), fraction(share)) for outcome, share in told], due)
                self.assertEqual(bench.shares_of([question]), [((outcome,), share) for outcome, share in told])
                self.assertEqual(sum(share for outcomes, share in due), 1)
                self.assertEqual(question[1], names)
                seen += len(told) > 1
            self.assertEqual(bench.standing(), before)
        self.assertGreater(seen, 25)

    def test_two_and_three_questions_against_plain_sums(self):
        luck = random.Random(62)
        for at in range(30):
            bench = drawn_bench(luck, most=24, highest=2, many=(2, 3))
            questions = [drawn_question(luck, bench) for k in range(luck.choice([2, 3]))]
            told = bench.shares_of(questions)
            for outcomes, share in told:
                self.assertIs(type(outcomes), tuple)
                self.assertIsInstance(share, Exact)
            due = plain_shares(bench, questions)
            self.assertEqual([(outcomes, fraction(share)) for outcomes, share in told], due)
            self.assertEqual(sum(share for outcomes, share in due), 1)

    def test_asked_as_kept(self):
        luck = random.Random(63)
        for at in range(15):
            bench = drawn_bench(luck, many=(2, 3))
            one, other = drawn_question(luck, bench), drawn_question(luck, bench)
            both = bench.shares_of([one, other])
            found = []
            for outcome, share in bench.shares(one):
                bench.do(("keep", one, outcome))
                for second, part in bench.shares(other):
                    found.append(((outcome, second), fraction(share) * fraction(part)))
                bench.undo()
            self.assertEqual([(outcomes, fraction(share)) for outcomes, share in both], found)

    def test_wide_ones_come_to_1(self):
        bench = bench_of(("put", "a", 4, 4), ("put", "b", 4, 0), ("put", "c", 4, -2), ("turn", ["a", "b"], GOOD),
                         ("turn", ["c"], HALVES[6]))
        for questions in [[("size", ["a", "b", "c"])], [("size", ["a", "b"]), ("size", ["b", "c"]), ("size", ["c", "a"])],
                          [("offset", ["a"]), ("size", ["b", "c", "a"]), ("offset", ["c", "b"])]]:
            told = bench.shares_of(questions)
            self.assertEqual(sum(fraction(share) for outcomes, share in told), 1)
            self.assertEqual([outcomes for outcomes, share in told], sorted({outcomes for outcomes, share in told}))
        many = bench_of(*[("put", name, 1, 1) for name in "abcdef"], ("turn", list("ace"), GOOD))
        told = many.shares(("size", list("fedcba")))
        self.assertEqual(sum(fraction(share) for outcome, share in told), 1)
        self.assertEqual([outcome for outcome, share in told], [0, 2, 4, 6])
        eight = bench_of(("put", "a", 8, 8), ("put", "b", 8, -8))
        self.assertEqual(sum(fraction(share) for outcome, share in eight.shares(("size", ["b", "a"]))), 1)

    def test_a_joined_size_is_sure(self):
        luck = random.Random(64)
        for at in range(10):
            labelled = drawn_labelled(luck, drawn_turns(luck, luck.randint(2, 5), most=100, highest=4))
            bench = Bench()
            offset = luck.randrange(-labelled[-1], labelled[-1] + 1, 2)
            bench.do(("joined", labelled, offset))
            self.assertEqual(bench.shares(("size", bench.names()[::-1])), [(labelled[-1], exact(1))])
            self.assertEqual(bench.shares(("offset", bench.names())), [(offset, exact(1))])
            bench.do(("turn", bench.names(), luck.choice(HALVES)))
            self.assertEqual(bench.shares(("size", bench.names())), [(labelled[-1], exact(1))])

    def test_outcomes_without_a_share_are_not_told(self):
        bench = bench_of(("joined", pair_of("a", "b"), 0), ("put", "c", 2, 2))
        self.assertEqual(bench.shares(("size", ["a", "b"])), [(0, exact(1))])
        self.assertEqual(bench.shares(("offset", ["c"])), [(2, exact(1))])
        self.assertEqual(bench.shares_of([("offset", ["a"]), ("offset", ["b"])]),
                         [((-1, 1), exact(1, bottom=2)), ((1, -1), exact(1, bottom=2))])


def told_go_with(one, other):
    """Whether two questions go with one another, as the point tells it."""
    (word, names), (second, others) = [(question[0], set(question[1])) for question in (one, other)]
    if not names & others or (word, second) == ("offset", "offset"):
        return True
    if word == second:
        return names <= others or others <= names
    return names <= others if word == "size" else others <= names


class GoWith(unittest.TestCase):
    def all_questions(self, names):
        for many in range(1, 2 ** len(names)):
            chosen = [name for at, name in enumerate(names) if many >> at & 1]
            yield "size", chosen
            yield "offset", chosen[::-1]

    def test_each_case(self):
        bench = bench_of(*[("put", name, 1, 1) for name in "abcd"])
        seen = []
        for one, other in product(self.all_questions("abcd"), repeat=2):
            told = bench.go_with(one, other)
            self.assertIs(told, told_go_with(one, other))
            self.assertIs(bench.go_with(other, one), told)
            seen.append(told)
        self.assertEqual(set(seen), {True, False})
        for one, other, due in [
            (("size", ["a"]), ("size", ["b"]), True), (("offset", ["a", "b"]), ("offset", ["b", "c"]), True),
            (("size", ["a", "b"]), ("size", ["b", "c"]), False), (("size", ["a", "b"]), ("size", ["c", "b", "a"]), True),
            (("size", ["a", "b"]), ("offset", ["a", "b"]), True), (("size", ["a", "b"]), ("offset", ["c", "a", "b"]), True),
            (("size", ["a", "b"]), ("offset", ["a"]), False), (("offset", ["a"]), ("size", ["b", "a"]), False),
            (("offset", ["a", "b", "c"]), ("size", ["b", "a"]), True), (("size", ["a"]), ("offset", ["a"]), True),
        ]:
            self.assertIs(bench.go_with(one, other), due)

    def test_such_questions_give_the_same_in_either_order(self):
        luck = random.Random(65)
        seen = 0
        while seen < 40:
            bench = drawn_bench(luck, most=36, highest=3, many=(2, 4))
            one, other = drawn_question(luck, bench), drawn_question(luck, bench)
            if bench.go_with(one, other):
                seen += 1
                there = dict(bench.shares_of([one, other]))
                back = {outcomes[::-1]: share for outcomes, share in bench.shares_of([other, one])}
                self.assertEqual(there, back)

    def test_of_others_there_are_standings_of_which_the_order_counts(self):
        found = set()
        luck = random.Random(66)
        cases = [(("size", ["a", "b"]), ("size", ["b", "c"])), (("size", ["a", "b"]), ("offset", ["a"])),
                 (("size", ["a", "b", "c"]), ("offset", ["b", "c"]))]
        for at in range(40):
            bench = bench_of(*[("put", name, 1, luck.choice([-1, 1])) for name in "abc"])
            for name in "abc":
                bench.do(("turn", [name], luck.choice(HALVES)))
            for k, (one, other) in enumerate(cases):
                self.assertFalse(bench.go_with(one, other))
                back = {outcomes[::-1]: share for outcomes, share in bench.shares_of([other, one])}
                if dict(bench.shares_of([one, other])) != back:
                    found.add(k)
        self.assertEqual(found, {0, 1, 2})


class Refused(unittest.TestCase):
    def test_no_question(self):
        for bench in (Bench(), bench_of(("joined", pair_of("a", "b"), 0))):
            good = ("size", ["a"])
            for question in wrong_questions():
                refused(self, NoQuestion, bench.shares, question)
                refused(self, NoQuestion, bench.shares_of, [question])
                refused(self, NoQuestion, bench.go_with, question, good)
                refused(self, NoQuestion, bench.go_with, question, None)
                refused(self, NoQuestion, bench.go_with, question, ("size", ["zz"]))
        bench = bench_of(("joined", pair_of("a", "b"), 0))
        for question in wrong_questions():
            refused(self, NoQuestion, bench.shares_of, [good, question])
            refused(self, NoQuestion, bench.shares_of, [good, good, question])
            refused(self, NoQuestion, bench.shares_of, [good, question, ("size", ["zz"])])
            refused(self, NoQuestion, bench.go_with, good, question)

    def test_no_list_of_one_to_three(self):
        bench = bench_of(("joined", pair_of("a", "b"), 0))
        good = ("size", ["a"])
        for thing in [*OTHER_THINGS, (good,), good, [good] * 4, [None] * 4, [], {0: good}, [("size", ["zz"])] * 4]:
            refused(self, NoQuestion, bench.shares_of, thing)
        self.assertEqual(len(bench.shares_of([good] * 3)), 1)

    def test_no_name(self):
        bench = bench_of(("joined", pair_of("a", "b"), 0))
        good = ("size", ["a"])
        for thing in [*NOT_NAMES, "z", "ab", ["a"], ("a",)]:
            for word in ("size", "offset"):
                for names in ([thing], ["a", thing], ["b", thing, "a", "zz"]):
                    question = (word, names)
                    for work in [lambda: bench.shares(question), lambda: bench.shares_of([question]),
                                 lambda: bench.shares_of([good, question, None]), lambda: bench.go_with(question, None),
                                 lambda: bench.shares_of([question, None]), lambda: bench.go_with(good, question),
                                 lambda: bench.go_with(question, ("size", ["zzz"]))]:
                        with self.assertRaises(NoName) as caught:
                            work()
                        self.assertIs(type(caught.exception), NoName)
                        self.assertEqual(caught.exception.name, thing)
        for work in [lambda: Bench().shares(good), lambda: Bench().go_with(good, good), lambda: Bench().shares_of([good])]:
            with self.assertRaises(NoName) as caught:
                work()
            self.assertEqual(caught.exception.name, "a")


class Fractions(unittest.TestCase):
    def test_squares_and_shares_are_fractions(self):
        luck = random.Random(67)
        for at in range(20):
            bench = drawn_bench(luck)
            self.assertGreater(fraction(bench.square()), 0)
            self.assertLessEqual(fraction(bench.square()), 1)
            self.assertEqual(bench.square(), square_of(bench.standing().numbers()))
            for outcome, share in bench.shares(drawn_question(luck, bench)):
                self.assertTrue(Fraction(0) < fraction(share) <= 1)


if __name__ == "__main__":
    unittest.main()
