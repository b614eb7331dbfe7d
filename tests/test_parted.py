"""Promise 19: standings parted in some turns and the others."""

import random
import unittest
from itertools import combinations

from tests.stood import NOT_NAMES, NOUGHT, OTHER_THINGS, drawn_standing, drawn_turns, places_of
from tests.told import refused
from turncouple.errors import NoName, NoStanding
from turncouple.numbers import exact, plus, times
from turncouple.standings import Standing, beside, parted
from turncouple.trees import stands


def name_lists(turns, luck):
    """All lists of some, not all, names, each in a drawn order."""
    names = [name for name, size in turns]
    for many in range(1, len(names)):
        for chosen in combinations(names, many):
            found = list(chosen)
            luck.shuffle(found)
            yield found


def woven(turns, one, other):
    """The number by number product of two standings, in the order of turns."""
    names = [name for name, size in one.turns() + other.turns()]
    order = [names.index(name) for name, size in turns]
    return {tuple(places[at] for at in order): number for places, number in beside(one, other).numbers().items()}


class Parted(unittest.TestCase):
    def check(self, standing, names):
        """Whether what is told holds; "parted" or "joint"."""
        told = parted(standing, names)
        turns = standing.turns()
        self.assertIs(type(told), tuple)
        if told[0] == "parted":
            word, one, other = told
            self.assertEqual(one.turns(), tuple(turn for turn in turns if turn[0] in names))
            self.assertEqual(other.turns(), tuple(turn for turn in turns if turn[0] not in names))
            self.assertEqual(woven(turns, one, other), standing.numbers())
            return "parted"
        word, p, q, r, s = told
        self.assertEqual(word, "joint")
        for at, (name, size) in enumerate(turns):
            if name in names:
                self.assertEqual((p[at], r[at]), (q[at], s[at]))
            else:
                self.assertEqual((p[at], q[at]), (r[at], s[at]))
        self.assertNotEqual(times(standing.at(p), standing.at(s)), times(standing.at(q), standing.at(r)))
        return "joint"

    def test_products_are_parted(self):
        luck = random.Random(19)
        for at in range(40):
            turns = drawn_turns(luck, luck.randint(2, 4), most=60, highest=4)
            cut = luck.randint(1, len(turns) - 1)
            numbers = [exact(0), exact(1), exact(-2, bottom=3), exact(1, root=2), plus(exact(2), exact(1, root=3))]
            one, other = [drawn_standing(luck, part, numbers) for part in (turns[:cut], turns[cut:])]
            both = beside(one, other)
            names = [name for name, size in turns[:cut]]
            self.assertEqual(self.check(both, names), "parted")
            self.assertEqual(self.check(both, [name for name, size in turns[cut:]]), "parted")
            for chosen in name_lists(turns, luck):
                self.check(both, chosen)

    def test_turns_that_stand_among_one_another(self):
        one = Standing((("a", 1), ("c", 1)), {(1, -1): exact(1), (-1, 1): exact(-1)})
        other = Standing((("b", 1), ("d", 2)), {(1, 0): exact(2), (-1, 2): exact(1, root=3)})
        both = beside(one, other)
        order = [0, 2, 1, 3]
        turns = tuple(both.turns()[at] for at in order)
        mixed = Standing(turns, {tuple(places[at] for at in order): number for places, number in both.numbers().items()})
        self.assertEqual(self.check(mixed, ["a", "c"]), "parted")
        self.assertEqual(self.check(mixed, ["d", "b"]), "parted")
        for names in [["a"], ["b"], ["a", "b"], ["c", "d"], ["a", "c", "d"]]:
            self.assertEqual(self.check(mixed, names), "joint")

    def test_all_products(self):
        turns = (("a", 2), ("b", 1), ("c", 3))
        alone = [Standing((turn,), {(place,): exact(place + 7) for place in range(-turn[1], turn[1] + 1, 2)})
                 for turn in turns]
        every = beside(beside(alone[0], alone[1]), alone[2])
        for names in name_lists(turns, random.Random(1)):
            self.assertEqual(self.check(every, names), "parted")
            for places in places_of(turns):
                bent = every.numbers()
                bent[places] = plus(bent[places], exact(1))
                self.assertEqual(self.check(Standing(turns, bent), names), "joint")
                bent[places] = NOUGHT
                self.assertEqual(self.check(Standing(turns, bent), names), "joint")

    def test_joined_turns_are_joint(self):
        pair = stands((("a", 1), ("b", 1), 0), offset=0)
        self.assertEqual(self.check(pair, ["a"]), "joint")
        self.assertEqual(self.check(pair, ["b"]), "joint")
        top = stands((("a", 1), ("b", 1), 2), offset=2)
        self.assertEqual(self.check(top, ["a"]), "parted")

    def test_drawn_ones(self):
        luck = random.Random(91)
        seen = set()
        for at in range(60):
            turns = drawn_turns(luck, luck.randint(2, 3), most=30, highest=3)
            few = [exact(0)] * 4 + [exact(1), exact(-1), exact(1, root=2)]
            standing = drawn_standing(luck, turns, few)
            for names in name_lists(turns, luck):
                seen.add(self.check(standing, names))
        self.assertEqual(seen, {"parted", "joint"})

    def test_a_standing_of_0(self):
        turns = (("a", 1), ("b", 2), ("c", 1))
        for names in name_lists(turns, random.Random(2)):
            self.assertEqual(self.check(Standing(turns, {}), names), "parted")

    def test_one_number(self):
        turns = (("a", 2), ("b", 2))
        for places in places_of(turns):
            self.assertEqual(self.check(Standing(turns, {places: exact(-3, bottom=2, root=7)}), ["b"]), "parted")

    def test_six_primes_in_the_roots(self):
        number = exact(1)
        for prime in (2, 3, 5, 7, 11, 13):
            number = times(number, plus(exact(1), exact(1, root=prime)))
        turns = (("a", 1), ("b", 1))
        numbers = {(-1, -1): number, (-1, 1): exact(1), (1, -1): times(number, exact(2)), (1, 1): exact(2)}
        self.assertEqual(self.check(Standing(turns, numbers), ["a"]), "parted")


class Refused(unittest.TestCase):
    standing = Standing((("a", 1), ("b", 1), ("c", 1)), {(1, 1, 1): exact(1)})

    def test_no_standing(self):
        for thing in OTHER_THINGS:
            refused(self, NoStanding, parted, thing, ["a"])
            refused(self, NoStanding, parted, thing, ["z"])

    def test_names_that_are_not_there(self):
        for thing in [*NOT_NAMES, "z", "ab", ["a"], ("a",), {"a": 1}, self.standing]:
            for names in [[thing], ["a", thing], [thing, "a"], ["a", "a", thing], ["a", "b", "c", thing], [thing, "zz"]]:
                with self.assertRaises(NoName) as caught:
                    parted(self.standing, names)
                self.assertEqual(caught.exception.name, thing)

    def test_other_lists(self):
        for names in [[], ["a", "a"], ["a", "b", "c"], ["c", "b", "a"], ["a", "b", "a"], ["a", "b", "c", "a"], ("a",), "a",
                      {"a": 1}, None, True, 1, (), "", exact(1)]:
            refused(self, NoStanding, parted, self.standing, names)
        refused(self, NoStanding, parted, Standing((("a", 1),), {}), ["a"])
        refused(self, NoStanding, parted, Standing((("a", 1),), {}), [])

    def test_what_is_handed_in_stays(self):
        names = ["b", "a"]
        parted(self.standing, names)
        self.assertEqual(names, ["b", "a"])
        self.assertEqual(self.standing.numbers(), {(1, 1, 1): exact(1)})


if __name__ == "__main__":
    unittest.main()
