"""Promise 6: sign, is_less."""

import unittest
from fractions import Fraction

from tests.plain import NOT_EXACT, made, near, number_of, primes_to, some_numbers
from turncouple.errors import NoNumber
from turncouple.numbers import bounds, exact, is_less, minus, plus, sign, times

NUMBERS = some_numbers(31, 40, [2, 3, 5, 7, 11, 13, 17, 19], terms=8) + [exact(0), exact(1), exact(-1)]
LONG = 10 ** 2999


def negative(one):
    return minus(exact(0), one)


def power(one, many):
    found = exact(1)
    for step in range(many):
        found = times(found, one)
    return found


# Each is above 0, and most of them but little.
TINY = [
    exact(1, bottom=LONG),
    exact(1, bottom=LONG, root=2),
    made((-1, 1, 1), (1, 1, 2)),
    made((3, 1, 1), (-2, 1, 2)),
    made((-1414213562373095048801688, 10 ** 24, 1), (1, 1, 2)),
    made((1414213562373095048801689, 10 ** 24, 1), (-1, 1, 2)),
    power(made((-1, 1, 1), (1, 1, 2)), 100),
    power(made((-1, 1, 1), (1, 1, 2)), 700),
    power(made((2, 1, 1), (-1, 1, 3)), 333),
    times(power(made((-1, 1, 1), (1, 1, 2)), 40), power(made((2, 1, 1), (-1, 1, 3)), 40)),
    times(power(made((3, 1, 5), (-2, 1, 11)), 30), power(made((-2, 1, 1), (1, 1, 5)), 30)),
    made((1, 1, 10), (1, 1, 11), (-1, 1, 5), (-1, 1, 18)),
    minus(exact(LONG + 1, bottom=LONG), exact(1)),
]


class Signs(unittest.TestCase):
    def test_ordinary_numbers(self):
        for number, due in [
            (exact(0), 0), (exact(1), 1), (exact(-1), -1), (exact(1, bottom=-7), -1), (exact(-3, root=2), -1),
            (exact(3, root=2), 1), (exact(5, root=0), 0), (made((1, 1, 2), (1, 1, 3)), 1),
            (made((-1, 1, 2), (-1, 1, 3)), -1), (made((1, 1, 2), (-1, 1, 3)), -1), (exact(LONG), 1),
            (made((-LONG, 1, 1), (1, 1, 2)), -1), (made((LONG, 1, 1), (-1, 1, 2)), 1),
        ]:
            self.assertEqual(sign(number), due)
            self.assertIs(type(sign(number)), int)
            self.assertEqual(sign(negative(number)), -due)

    def test_against_decimals(self):
        for one in NUMBERS:
            worth = near(one)
            self.assertEqual(sign(one), (worth > 0) - (worth < 0))

    def test_nearly_nought(self):
        for number in TINY:
            with self.subTest(str(number)[:80]):
                self.assertEqual(sign(number), 1)
                self.assertEqual(sign(negative(number)), -1)

    def test_what_comes_to_nought(self):
        for number in TINY + NUMBERS:
            self.assertEqual(sign(minus(number, number)), 0)

    def test_more_primes_than_over_takes(self):
        primes = primes_to(100)
        total = made(*[(1, 1, prime) for prime in primes])
        worth = int(Fraction(near(total)) * 10 ** 40)
        self.assertEqual(sign(minus(total, exact(worth, bottom=10 ** 40))), 1)
        self.assertEqual(sign(minus(total, exact(worth + 1, bottom=10 ** 40))), -1)
        high = number_of(1, 1, primes)
        self.assertEqual(sign(minus(high, exact(10 ** 18))), 1 if near(high) > 10 ** 18 else -1)


class Bounds(unittest.TestCase):
    def test_the_number_stands_between(self):
        for number in [exact(1), exact(-1), exact(1, bottom=3), *NUMBERS]:
            for bits in (0, 1, 2, 5, 64):
                low, high = bounds(number.parts, bits)
                worth = Fraction(near(number)) * 2 ** bits
                self.assertTrue(low <= worth <= high)
                self.assertLessEqual(high - low, len(number.parts))


class Less(unittest.TestCase):
    def test_against_decimals(self):
        for one in NUMBERS:
            for other in NUMBERS:
                self.assertIs(is_less(one, other), one != other and near(one) < near(other))

    def test_a_number_and_itself(self):
        for one in NUMBERS + TINY:
            self.assertIs(is_less(one, one), False)
            self.assertIs(is_less(one, plus(one, exact(0))), False)

    def test_but_little_less(self):
        for tiny in TINY:
            for one in NUMBERS[:10]:
                self.assertIs(is_less(one, plus(one, tiny)), True)
                self.assertIs(is_less(plus(one, tiny), one), False)
                self.assertIs(is_less(minus(one, tiny), one), True)
                self.assertIs(is_less(one, minus(one, tiny)), False)

    def test_roots_of_neighbours(self):
        for root in range(1, 300):
            self.assertIs(is_less(exact(1, root=root), exact(1, root=root + 1)), True)
            self.assertIs(is_less(exact(-1, root=root), exact(-1, root=root + 1)), False)


class Refused(unittest.TestCase):
    def test_what_is_no_exact_number(self):
        for thing in NOT_EXACT:
            with self.assertRaises(NoNumber):
                sign(thing)
            for pair in [(thing, exact(1)), (exact(1), thing), (exact(0), thing), (thing, thing)]:
                with self.assertRaises(NoNumber):
                    is_less(*pair)


if __name__ == "__main__":
    unittest.main()
