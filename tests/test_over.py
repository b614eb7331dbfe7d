"""Promise 6: over."""

import unittest

from tests.plain import NOT_EXACT, made, number_of, primes_to, some_numbers
from turncouple.errors import ByNought, NoNumber, TooWide
from turncouple.numbers import exact, minus, over, plus, times

SIX = [2, 3, 5, 7, 11, 13]
LOWER = [number for number in some_numbers(21, 30, SIX) + some_numbers(22, 10, [967, 971, 977, 983, 991, 997])
         if number != exact(0)]
UPPER = some_numbers(23, 6, [2, 3, 5, 7, 17, 19, 23, 29, 997], terms=8) + [exact(0), exact(1)]


def all_products(primes):
    """1 and the roots of all products of primes, added up with unlike fractions."""
    found = exact(1)
    for at, prime in enumerate(primes):
        found = times(found, made((at + 1, 1, 1), (1, at + 2, prime)))
    return plus(found, exact(1, bottom=7))


class Quotients(unittest.TestCase):
    def test_ordinary_ones(self):
        for one, other, due in [
            (exact(6), exact(3), ((1, 2, 1),)),
            (exact(1), exact(-3), ((1, -1, 3),)),
            (exact(1), exact(1, root=2), ((2, 1, 2),)),
            (exact(1), exact(-2, bottom=3, root=6), ((6, -1, 4),)),
            (exact(1, root=6), exact(1, root=2), ((3, 1, 1),)),
            (exact(1), made((1, 1, 1), (1, 1, 2)), ((1, -1, 1), (2, 1, 1))),
            (exact(1), made((1, 1, 1), (-1, 1, 2)), ((1, -1, 1), (2, -1, 1))),
            (exact(1), made((1, 1, 2), (1, 1, 3)), ((2, -1, 1), (3, 1, 1))),
            (exact(1), made((1, 1, 2), (1, 1, 6)), ((2, -1, 4), (6, 1, 4))),
            (exact(0), made((1, 1, 2), (1, 1, 3)), ()),
            (exact(2), exact(10 ** 2999), ((1, 1, 10 ** 2999 // 2),)),
        ]:
            self.assertEqual(over(one, other).parts, due)

    def test_times_the_lower_one(self):
        for one in UPPER:
            for other in LOWER:
                self.assertEqual(times(over(one, other), other), one)
                self.assertEqual(over(times(one, other), other), one)

    def test_one_over_itself(self):
        for one in LOWER:
            self.assertEqual(over(one, one).parts, ((1, 1, 1),))

    def test_six_primes_in_all_ways(self):
        for primes in (SIX, [967, 971, 977, 983, 991, 997]):
            low = all_products(primes)
            self.assertEqual(len(low.parts), 64)
            quotient = over(exact(5, root=17), low)
            self.assertEqual(times(quotient, low), exact(5, root=17))
            self.assertEqual(over(low, low), exact(1))
        low = made(*[(1, 1, root) for root in [1, *SIX]])
        self.assertEqual(times(over(exact(1), low), low), exact(1))

    def test_numbers_nearly_nought(self):
        power = exact(1)
        for step in range(40):
            power = times(power, made((-1, 1, 1), (1, 1, 2)))
        self.assertEqual(times(over(exact(1), power), power), exact(1))

    def test_many_figures(self):
        high = made((10 ** 2999 + 1, 1, 1), (3, 1, 2))
        self.assertEqual(times(over(exact(1), high), high), exact(1))

    def test_nothing_handed_in_is_changed(self):
        one, other = made((1, 2, 1), (3, 5, 2)), made((-1, 2, 1), (1, 7, 3))
        before = (one.parts, other.parts)
        over(one, other)
        self.assertEqual((one.parts, other.parts), before)


class Refused(unittest.TestCase):
    def test_by_nought(self):
        for one in [exact(0), exact(1), *LOWER[:3]]:
            with self.assertRaises(ByNought):
                over(one, exact(0))
            with self.assertRaises(ByNought):
                over(one, minus(LOWER[0], LOWER[0]))

    def test_more_than_six_primes_below(self):
        seven = SIX + [17]
        wide = [
            number_of(1, 1, seven),
            made(*[(1, 1, prime) for prime in seven]),
            plus(exact(1), number_of(2, 3, seven)),
            plus(number_of(1, 1, SIX), exact(1, root=997)),
            plus(number_of(1, 1, [2, 3, 5, 7]), number_of(1, 1, [991, 997, 983])),
            number_of(1, 1, primes_to(1000)),
        ]
        for other in wide:
            for one in (exact(0), exact(1), other):
                with self.assertRaises(TooWide):
                    over(one, other)

    def test_just_six_primes_below(self):
        for other in [number_of(3, 5, SIX), made(*[(1, 1, prime) for prime in SIX]),
                      plus(number_of(1, 1, [2, 3, 5, 7]), number_of(1, 1, [11, 13, 2, 3]))]:
            self.assertEqual(times(over(exact(1), other), other), exact(1))

    def test_any_number_of_primes_above(self):
        one = plus(number_of(1, 1, primes_to(100)), number_of(1, 3, primes_to(1000)))
        quotient = over(one, made((1, 1, 1), (1, 1, 2)))
        self.assertEqual(times(quotient, made((1, 1, 1), (1, 1, 2))), one)

    def test_what_is_no_exact_number_first(self):
        wide = number_of(1, 1, SIX + [17])
        for thing in NOT_EXACT:
            for pair in [(thing, exact(1)), (exact(1), thing), (thing, exact(0)), (thing, wide), (thing, thing)]:
                with self.assertRaises(NoNumber):
                    over(*pair)


if __name__ == "__main__":
    unittest.main()
