"""Promise 19: standings, and what is asked of them."""

import random
import unittest

from tests.plain import NOT_EXACT, NOT_WHOLE
from tests.stood import NOT_NAMES, NOUGHT, OTHER_THINGS, drawn_standing, drawn_turns, places_of
from tests.told import LONG, refused, together, total
from turncouple.errors import NoNumber, NoOffset, NoStanding
from turncouple.numbers import Exact, exact, plus, times
from turncouple.standings import Standing, added, beside, held, is_along, scaled

TURNS = (("a", 1), ("b", 2))
ONE = Standing(TURNS, {(1, 0): exact(1), (-1, 2): exact(1, root=2)})


class Made(unittest.TestCase):
    def test_turns_and_numbers(self):
        self.assertEqual(ONE.turns(), TURNS)
        self.assertEqual(ONE.numbers(), {(1, 0): exact(1), (-1, 2): exact(1, root=2)})
        self.assertEqual(ONE.at((1, 0)), exact(1))
        self.assertEqual(ONE.at((-1, 2)), exact(1, root=2))
        for places in places_of(TURNS):
            self.assertIsInstance(ONE.at(places), Exact)
            if places not in [(1, 0), (-1, 2)]:
                self.assertEqual(ONE.at(places), NOUGHT)

    def test_numbers_of_0_are_left_out(self):
        standing = Standing(TURNS, {(1, 0): NOUGHT, (1, 2): exact(3), (-1, 0): plus(exact(1), exact(-1))})
        self.assertEqual(standing.numbers(), {(1, 2): exact(3)})
        self.assertEqual(standing, Standing(TURNS, {(1, 2): exact(3)}))
        self.assertEqual(Standing(TURNS, {(1, 0): NOUGHT}), Standing(TURNS, {}))
        self.assertEqual(Standing(TURNS, {}).numbers(), {})
        self.assertEqual(standing.at((1, 0)), NOUGHT)

    def test_at_the_limits(self):
        for turns in [(("a", 0),), (("a", 8),), (("abcdefgh", 8), ("z", 8)), tuple((name, 1) for name in "abcdef"),
                      (("a", 7), ("b", 7), ("c", 1)), (("a", 8), ("b", 6), ("c", 1)), (("a", 7), ("b", 3), ("c", 3)),
                      tuple((name, 0) for name in "fedcba"), (("a", 3), ("b", 1), ("c", 1), ("d", 1), ("e", 1), ("f", 1))]:
            numbers = {places: exact(sum(places) + 1) for places in places_of(turns)}
            self.assertLessEqual(len(numbers), 128)
            standing = Standing(turns, numbers)
            self.assertEqual(standing.turns(), turns)
            for places, number in numbers.items():
                self.assertEqual(standing.at(places), number)

    def test_equal_and_unlike(self):
        self.assertEqual(ONE, Standing(TURNS, {(-1, 2): exact(1, root=2), (1, 0): exact(1)}))
        self.assertTrue(ONE == Standing(TURNS, ONE.numbers()))
        for other in [Standing(TURNS, {}), Standing(TURNS, {(1, 0): exact(1)}),
                      Standing(TURNS, {(1, 0): exact(1), (-1, 2): exact(1)}),
                      Standing(TURNS, {**ONE.numbers(), (1, 2): exact(1)}),
                      Standing((("a", 1), ("c", 2)), ONE.numbers()),
                      Standing((("b", 2), ("a", 1)), {(0, 1): exact(1), (2, -1): exact(1, root=2)}),
                      Standing((("a", 3), ("b", 2)), ONE.numbers()), TURNS, ONE.numbers(), *OTHER_THINGS]:
            self.assertFalse(ONE == other)
            self.assertTrue(ONE != other)
        nought = Standing((("a", 1),), {})
        self.assertFalse(nought == Standing((("a", 2),), {}))
        self.assertFalse(nought == NOUGHT)

    def test_what_is_handed_in_and_told_is_copied(self):
        numbers = {(1, 0): exact(1)}
        standing = Standing(TURNS, numbers)
        numbers[(1, 0)] = exact(5)
        numbers[(1, 2)] = exact(5)
        self.assertEqual(standing.numbers(), {(1, 0): exact(1)})
        told = standing.numbers()
        told.clear()
        told[(1, 2)] = None
        self.assertEqual(standing.numbers(), {(1, 0): exact(1)})
        self.assertEqual(standing.at((1, 2)), NOUGHT)
        given = {(1, 0): NOUGHT}
        Standing(TURNS, given)
        self.assertEqual(given, {(1, 0): NOUGHT})


class Refused(unittest.TestCase):
    def test_turns(self):
        for turns in [*OTHER_THINGS, list(TURNS), dict(TURNS), "ab", (("a", 1), ("a", 2)), (("a", 1), ("a", 1)),
                      (["a", 1],), (("a",),), (("a", 1, 1),), ("a", 1), ("ab",), (None,), (("a", 1), None),
                      tuple((name, 0) for name in "abcdefg"), (("a", 9),), (("a", 40),), (("a", -1),), (("a", LONG),),
                      (("a", 8), ("b", 8), ("c", 1)), (("a", 7), ("b", 7), ("c", 2)), (("a", 2), ("b", 5), ("c", 7)),
                      (("a", 8), ("b", 8), ("c", 8), ("d", 8), ("e", 8), ("f", 8)), ((1, "a"),)]:
            refused(self, NoStanding, Standing, turns, {})
        for size in NOT_WHOLE:
            refused(self, NoStanding, Standing, (("a", size),), {})
            refused(self, NoStanding, Standing, (("b", 1), ("a", size)), {})
        for name in NOT_NAMES:
            refused(self, NoStanding, Standing, ((name, 1),), {})
            refused(self, NoStanding, Standing, (("a", 1), (name, 1)), {})

    def test_numbers(self):
        for numbers in [thing for thing in OTHER_THINGS if thing != {}] + [[((1, 0), exact(1))], ONE]:
            refused(self, NoStanding, Standing, TURNS, numbers)
        for number in NOT_EXACT:
            refused(self, NoStanding, Standing, TURNS, {(1, 0): number})
            refused(self, NoStanding, Standing, TURNS, {(1, 2): exact(1), (1, 0): number})
        for places in [(), (1,), (1, 0, 0), (0, 1), (1, 1), (3, 0), (1, 4), (-3, 0), (True, 0), (1, False), (1, None),
                       ("1", 0), (1, (0,)), 1, None, True, "10", ((1, 0),), (1, LONG), ((1, 0), 0)]:
            refused(self, NoStanding, Standing, TURNS, {places: exact(1)})
            refused(self, NoStanding, Standing, TURNS, {(1, 2): exact(1), places: NOUGHT})
            refused(self, NoOffset, ONE.at, places)
        for places in [[1, 0], {1: 0}, {}, ([1], 0), exact(1), (exact(1), 0)]:
            refused(self, NoOffset, ONE.at, places)
        for thing in OTHER_THINGS:
            refused(self, NoOffset, ONE.at, thing)
        refused(self, NoOffset, Standing((("a", 1),), {}).at, (True,))

    def test_what_is_no_standing(self):
        for thing in [*OTHER_THINGS, TURNS, ONE.numbers()]:
            for work in (held, beside, added, is_along):
                refused(self, NoStanding, work, thing, ONE)
                refused(self, NoStanding, work, ONE, thing)
            refused(self, NoStanding, scaled, thing, exact(1))
        for thing in NOT_EXACT:
            refused(self, NoNumber, scaled, ONE, thing)
            refused(self, NoNumber, scaled, Standing(TURNS, {}), thing)

    def test_other_turns_or_another_order(self):
        for turns in [(("a", 1),), (("b", 2), ("a", 1)), (("a", 1), ("c", 2)), (("a", 1), ("b", 1)), (("a", 1), ("b", 4)),
                      (*TURNS, ("c", 0))]:
            for work in (held, added, is_along):
                for numbers in ({}, {places: exact(1) for places in places_of(turns)}):
                    refused(self, NoStanding, work, ONE, Standing(turns, numbers))
                    refused(self, NoStanding, work, Standing(turns, numbers), ONE)

    def test_beside(self):
        for turns in [(("a", 1),), (("c", 1), ("b", 0)), (("c", 4), ("d", 4)), (("c", 7), ("d", 2)),
                      tuple((name, 0) for name in "vwxyz"), (("c", 8), ("d", 8))]:
            for one, other in [(TURNS, turns), (turns, TURNS)]:
                refused(self, NoStanding, beside, Standing(one, {}), Standing(other, {}))
                filled = [Standing(own, {places: exact(1) for places in places_of(own)}) for own in (one, other)]
                refused(self, NoStanding, beside, *filled)
        self.assertEqual(len(beside(Standing(TURNS, {}), Standing((("c", 4), ("d", 3)), {})).turns()), 4)


class Asked(unittest.TestCase):
    def drawn(self, seed, many):
        luck = random.Random(seed)
        for at in range(many):
            turns = drawn_turns(luck, luck.randint(1, 3), most=40, highest=4)
            yield luck, turns, drawn_standing(luck, turns), drawn_standing(luck, turns)

    def test_held(self):
        for luck, turns, one, other in self.drawn(1, 30):
            due = total(together(one.at(places), other.at(places)) for places in places_of(turns))
            self.assertEqual(held(one, other), due)
            self.assertEqual(held(other, one), due)
            self.assertIsInstance(held(one, other), Exact)
        self.assertEqual(held(ONE, ONE), exact(3))
        self.assertEqual(held(ONE, Standing(TURNS, {})), NOUGHT)

    def test_beside(self):
        for luck, turns, one, unused in self.drawn(2, 15):
            others = drawn_turns(luck, luck.randint(1, 2), most=128 // len(places_of(turns)), names="uvwxyz")
            other = drawn_standing(luck, others)
            both = beside(one, other)
            self.assertEqual(both.turns(), turns + others)
            for places in places_of(turns):
                for behind in places_of(others):
                    self.assertEqual(both.at(places + behind), times(one.at(places), other.at(behind)))

    def test_added_and_scaled(self):
        for luck, turns, one, other in self.drawn(3, 20):
            number = luck.choice([NOUGHT, exact(-2, bottom=3), exact(1, root=5), plus(exact(1), exact(-1, root=2))])
            both, many = added(one, other), scaled(one, number)
            self.assertEqual((both.turns(), many.turns()), (turns, turns))
            for places in places_of(turns):
                self.assertEqual(both.at(places), plus(one.at(places), other.at(places)))
                self.assertEqual(many.at(places), times(one.at(places), number))
            self.assertEqual(added(other, one), both)
            gone = added(one, scaled(one, exact(-1)))
            self.assertEqual(gone, Standing(turns, {}))
            self.assertEqual(gone.numbers(), {})
            self.assertNotIn(NOUGHT, both.numbers().values())
            self.assertNotIn(NOUGHT, many.numbers().values())

    def test_is_along(self):
        above = [exact(1), exact(2, bottom=7), exact(1, root=3), plus(exact(3), exact(-2, root=2)), exact(1, root=30)]
        below = [together(-1, number) for number in above]
        for luck, turns, one, other in self.drawn(4, 30):
            nought = Standing(turns, {})
            self.assertIs(is_along(nought, nought), True)
            if one == nought:
                continue
            self.assertIs(is_along(one, nought), False)
            self.assertIs(is_along(nought, one), False)
            for number in above:
                self.assertIs(is_along(one, scaled(one, number)), True)
                self.assertIs(is_along(scaled(one, number), one), True)
            for number in below:
                self.assertIs(is_along(one, scaled(one, number)), False)
            places = luck.choice(places_of(turns))
            bent = added(one, Standing(turns, {places: exact(1, bottom=10)}))
            if len(one.numbers()) > 1 or places not in one.numbers():
                self.assertIs(is_along(one, bent), False)
                self.assertIs(is_along(bent, one), False)
        one = Standing(TURNS, {(1, 0): exact(1), (1, 2): exact(1)})
        self.assertFalse(is_along(one, Standing(TURNS, {(1, 0): exact(1), (1, 2): exact(-1)})))
        self.assertFalse(is_along(one, Standing(TURNS, {(1, 0): exact(1), (-1, 2): exact(1)})))
        # Numbers whose roots have more primes than can stand below.
        wide = exact(1)
        for prime in (2, 3, 5, 7, 11, 13, 17, 19):
            wide = times(wide, plus(exact(1), exact(1, root=prime)))
        self.assertTrue(is_along(one, scaled(one, wide)))
        self.assertFalse(is_along(scaled(one, together(-1, wide)), one))

    def test_what_is_handed_in_stays(self):
        for luck, turns, one, other in self.drawn(5, 3):
            before = one.numbers(), other.numbers()
            for work in (held, added, is_along):
                work(one, other)
            scaled(one, exact(3))
            beside(one, Standing((("z", 0),), {(0,): exact(2)}))
            self.assertEqual((one.numbers(), other.numbers()), before)


if __name__ == "__main__":
    unittest.main()
