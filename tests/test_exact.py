"""Promise 5: what an exact number is, its parts, its text, what it equals."""

import unittest
from fractions import Fraction

from tests.plain import NOT_EXACT, NOT_WHOLE, made, number_of, primes_to
from turncouple.errors import ByNought, NoNumber
from turncouple.numbers import Exact, exact, minus, plus, times

LONG = 10 ** 2999 + 7


class Made(unittest.TestCase):
    def test_tops_alone(self):
        for top in (1, -1, 2, -17, 1000000, LONG, -LONG):
            self.assertEqual(exact(top).parts, ((1, top, 1),))
        self.assertEqual(exact(0).parts, ())
        self.assertIsInstance(exact(1), Exact)

    def test_bottoms(self):
        self.assertEqual(exact(1, bottom=2).parts, ((1, 1, 2),))
        self.assertEqual(exact(1, bottom=-2).parts, ((1, -1, 2),))
        self.assertEqual(exact(-1, bottom=-2).parts, ((1, 1, 2),))
        self.assertEqual(exact(-6, bottom=4).parts, ((1, -3, 2),))
        self.assertEqual(exact(6, bottom=-3).parts, ((1, -2, 1),))
        self.assertEqual(exact(0, bottom=-3).parts, ())
        self.assertEqual(exact(5, bottom=5).parts, ((1, 1, 1),))
        self.assertEqual(exact(LONG * 3, bottom=-LONG * 5).parts, ((1, -3, 5),))
        self.assertEqual(exact(1, bottom=LONG).parts, ((1, 1, LONG),))

    def test_fractions_in_lowest_terms(self):
        for top in range(-12, 13):
            for bottom in [*range(-12, 0), *range(1, 13)]:
                worth = Fraction(top, bottom)
                due = ((1, worth.numerator, worth.denominator),) if top else ()
                self.assertEqual(exact(top, bottom=bottom).parts, due)

    def test_roots(self):
        self.assertEqual(exact(3, root=0).parts, ())
        self.assertEqual(exact(0, root=2).parts, ())
        self.assertEqual(exact(0, root=0).parts, ())
        self.assertEqual(exact(3, root=1).parts, ((1, 3, 1),))
        self.assertEqual(exact(3, root=4).parts, ((1, 6, 1),))
        self.assertEqual(exact(1, root=2).parts, ((2, 1, 1),))
        self.assertEqual(exact(1, root=12).parts, ((3, 2, 1),))
        self.assertEqual(exact(1, bottom=2, root=12).parts, ((3, 1, 1),))
        self.assertEqual(exact(-1, bottom=6, root=72).parts, ((2, -1, 1),))
        self.assertEqual(exact(1, root=1000000).parts, ((1, 1000, 1),))
        self.assertEqual(exact(1, root=999999).parts, ((3 * 7 * 11 * 13 * 37, 3, 1),))
        self.assertEqual(exact(1, root=510510).parts, ((510510, 1, 1),))
        self.assertEqual(exact(1, root=2 ** 19).parts, ((2, 512, 1),))

    def test_all_small_roots(self):
        for root in range(1, 1000):
            ((inside, outside, bottom),) = exact(1, root=root).parts
            self.assertEqual((outside * outside * inside, bottom), (root, 1))
            self.assertFalse([k for k in range(2, 32) if inside % (k * k) == 0])

    def test_primes_about_1000(self):
        self.assertEqual(exact(1, root=997).parts, ((997, 1, 1),))
        self.assertEqual(exact(1, root=997 * 997).parts, ((1, 997, 1),))
        self.assertEqual(exact(1, root=997 * 991).parts, ((997 * 991, 1, 1),))
        self.assertEqual(exact(2, root=4 * 997).parts, ((997, 4, 1),))
        for prime in (1009, 1013, 2003, 999983):
            for root in range(prime, 1000001, prime):
                if root < 5 * prime:
                    with self.assertRaises(NoNumber):
                        exact(1, root=root)

    def test_roots_beyond(self):
        for root in (-1, -4, -1000000, -LONG, 1000001, 1002001, 1000000 * 4, LONG, 1018081):
            for top in (0, 1):
                with self.assertRaises(NoNumber):
                    exact(top, root=root)

    def test_names_in_either_order_and_left_out(self):
        self.assertEqual(exact(1, bottom=3, root=5), exact(1, root=5, bottom=3))
        self.assertEqual(exact(1, bottom=3), exact(1, bottom=3, root=1))
        self.assertEqual(exact(1, root=5), exact(1, root=5, bottom=1))
        with self.assertRaises(TypeError):
            exact(1, 2)

    def test_a_bottom_of_nought(self):
        for top in (0, 1, -5, LONG):
            for root in (0, 1, 12, 1000000):
                with self.assertRaises(ByNought):
                    exact(top, bottom=0, root=root)

    def test_what_is_no_whole_number(self):
        for thing in NOT_WHOLE:
            before = repr(thing)
            with self.assertRaises(NoNumber):
                exact(thing)
            with self.assertRaises(NoNumber):
                exact(1, bottom=thing)
            with self.assertRaises(NoNumber):
                exact(1, root=thing)
            self.assertEqual(repr(thing), before)

    def test_no_number_ahead_of_by_nought(self):
        for thing in NOT_WHOLE:
            with self.assertRaises(NoNumber):
                exact(thing, bottom=0)
            with self.assertRaises(NoNumber):
                exact(1, bottom=0, root=thing)
        for root in (-1, 1000001, 1009):
            with self.assertRaises(NoNumber):
                exact(1, bottom=0, root=root)


class Parts(unittest.TestCase):
    def test_roots_rise_whatever_order_they_come_in(self):
        rows = [(5, 7, 15), (1, 2, 1), (-1, 1, 3), (4, 6, 2)]
        due = ((1, 1, 2), (2, 2, 3), (3, -1, 1), (15, 5, 7))
        self.assertEqual(made(*rows).parts, due)
        self.assertEqual(made(*rows[::-1]).parts, due)

    def test_kinds(self):
        number = made((1, 2, 1), (-1, 3, 5))
        self.assertIs(type(number.parts), tuple)
        for part in number.parts:
            self.assertIs(type(part), tuple)
            self.assertEqual([type(thing) for thing in part], [int, int, int])
        self.assertEqual(exact(0).parts, ())

    def test_roots_higher_than_1000000(self):
        primes = primes_to(60)
        product = 1
        for prime in primes:
            product *= prime
        self.assertEqual(number_of(1, 2, primes).parts, ((product, 1, 2),))


class Equal(unittest.TestCase):
    def test_equal_numbers(self):
        pairs = [
            (exact(0), exact(0, bottom=-7, root=12)),
            (exact(1), exact(-2, bottom=-2)),
            (exact(2, root=3), exact(1, root=12)),
            (made((1, 2, 1), (1, 1, 2)), made((1, 1, 2), (2, 4, 1))),
            (exact(3), times(exact(1, root=3), exact(1, root=3))),
        ]
        for one, other in pairs:
            self.assertTrue(one == other)
            self.assertFalse(one != other)

    def test_unlike_numbers(self):
        numbers = [exact(0), exact(1), exact(-1), exact(2), exact(1, bottom=2), exact(1, root=2), exact(-1, root=2),
                   exact(1, root=3), made((1, 1, 1), (1, 1, 2)), made((1, 1, 1), (-1, 1, 2)), exact(LONG)]
        for at, one in enumerate(numbers):
            for place, other in enumerate(numbers):
                self.assertIs(one == other, at == place)
                self.assertIs(one != other, at != place)

    def test_nothing_else(self):
        for number in (exact(0), exact(1), exact(-3), exact(1, root=2)):
            for thing in [*NOT_EXACT, number.parts, str(number), repr(number), [number], Fraction(1)]:
                self.assertFalse(number == thing)
                self.assertFalse(thing == number)
                self.assertTrue(number != thing)


class Texts(unittest.TestCase):
    def test_single_parts(self):
        for due, number in [
            ("0", exact(0)), ("1", exact(1)), ("-1", exact(-1)), ("17", exact(17)), ("-17", exact(-17)),
            ("1/2", exact(1, bottom=2)), ("-1/2", exact(1, bottom=-2)), ("22/7", exact(22, bottom=7)),
            ("r2", exact(1, root=2)), ("-r2", exact(-1, root=2)), ("2*r2", exact(1, root=8)),
            ("-2*r2", exact(-2, root=2)), ("1/2*r2", exact(1, bottom=2, root=2)),
            ("-1/2*r2", exact(-1, bottom=2, root=2)), ("5/7*r15", exact(5, bottom=7, root=15)),
            ("997", times(exact(1, root=997), exact(1, root=997))),
        ]:
            self.assertEqual(str(number), due)
            self.assertEqual(repr(number), f"Exact({due})")

    def test_several_parts(self):
        for due, number in [
            ("1/2 - r3 + 5/7*r15", made((1, 2, 1), (-1, 1, 3), (5, 7, 15))),
            ("-1/2 + r3 - 5/7*r15", made((-1, 2, 1), (1, 1, 3), (-5, 7, 15))),
            ("1 + r2", made((1, 1, 1), (1, 1, 2))),
            ("1 - r2", made((1, 1, 1), (-1, 1, 2))),
            ("-1 - r2", made((-1, 1, 1), (-1, 1, 2))),
            ("-r2 - r3", made((-1, 1, 2), (-1, 1, 3))),
            ("r2 + 2*r3 - 1/3*r5", made((1, 1, 2), (2, 1, 3), (-1, 3, 5))),
            ("-7/2*r2 + 11*r6", made((-7, 2, 2), (11, 1, 6))),
        ]:
            self.assertEqual(str(number), due)
            self.assertEqual(repr(number), f"Exact({due})")
            self.assertEqual(f"{number}", due)

    def test_many_figures(self):
        self.assertEqual(str(exact(-LONG)), "-1" + "0" * 2998 + "7")
        square = times(exact(10 ** 2999), exact(10 ** 2999, bottom=3))
        self.assertEqual(str(square), "1" + "0" * 5998 + "/3")
        self.assertEqual(repr(exact(1, bottom=10 ** 2999, root=2)), "Exact(1/1" + "0" * 2999 + "*r2)")
        low = times(exact(1, bottom=10 ** 2999), exact(1, bottom=10 ** 2999))
        self.assertEqual(str(minus(exact(0), low)), "-1/1" + "0" * 5998)

    def test_high_roots(self):
        self.assertEqual(str(number_of(1, 1, [997, 991, 983])), f"r{997 * 991 * 983}")
        self.assertEqual(str(plus(exact(-1), number_of(-2, 3, [997, 991, 983]))), f"-1 - 2/3*r{997 * 991 * 983}")


if __name__ == "__main__":
    unittest.main()
