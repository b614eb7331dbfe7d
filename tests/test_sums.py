"""Promise 6: plus, minus, times."""

import unittest

from tests.plain import NOT_EXACT, field, field_product, field_sum, made, number_of, parts, primes_to, some_numbers
from turncouple.errors import NoNumber
from turncouple.numbers import Exact, exact, minus, plus, times

FEW = some_numbers(11, 25, [2, 3, 5, 7])
MANY = some_numbers(12, 12, [2, 3, 5, 7, 11, 13, 17, 983, 991, 997], terms=12, high=10 ** 12)
NUMBERS = FEW + MANY + [exact(0), exact(1), exact(-1), exact(1, root=2), exact(10 ** 2999 + 1, bottom=10 ** 2999)]


class AgainstFractions(unittest.TestCase):
    def test_sums_and_differences(self):
        for one in NUMBERS:
            for other in NUMBERS:
                self.assertEqual(plus(one, other).parts, parts(field_sum(field(one), field(other))))
                self.assertEqual(minus(one, other).parts, parts(field_sum(field(one), field(other), -1)))

    def test_products(self):
        for one in NUMBERS:
            for other in NUMBERS:
                self.assertEqual(times(one, other).parts, parts(field_product(field(one), field(other))))

    def test_laws(self):
        for one in FEW[:8]:
            for other in FEW[8:16]:
                self.assertEqual(minus(plus(one, other), other), one)
                self.assertEqual(times(one, other), times(other, one))
                for third in FEW[16:20]:
                    self.assertEqual(times(one, plus(other, third)), plus(times(one, other), times(one, third)))


class Edges(unittest.TestCase):
    def test_terms_that_meet(self):
        self.assertEqual(plus(exact(1, bottom=6), exact(1, bottom=3)).parts, ((1, 1, 2),))
        self.assertEqual(plus(exact(1, bottom=6, root=8), exact(1, bottom=3, root=2)).parts, ((2, 2, 3),))
        self.assertEqual(minus(exact(5, bottom=6), exact(-1, bottom=6)).parts, ((1, 1, 1),))

    def test_terms_that_come_to_nought(self):
        one = made((1, 2, 1), (3, 5, 2), (-7, 1, 3))
        self.assertEqual(minus(one, one).parts, ())
        self.assertEqual(plus(one, made((-1, 2, 1), (-3, 5, 2), (7, 1, 3))).parts, ())
        self.assertEqual(plus(one, exact(-3, bottom=5, root=2)).parts, ((1, 1, 2), (3, -7, 1)))
        self.assertEqual(times(made((1, 1, 2), (1, 1, 3)), made((1, 1, 2), (-1, 1, 3))).parts, ((1, -1, 1),))
        self.assertEqual(times(one, exact(0)).parts, ())
        self.assertEqual(times(exact(0), one).parts, ())

    def test_roots_with_primes_in_common(self):
        self.assertEqual(times(exact(1, root=6), exact(1, root=10)).parts, ((15, 2, 1),))
        self.assertEqual(times(exact(1, root=6), exact(1, root=6)).parts, ((1, 6, 1),))
        self.assertEqual(times(exact(1, root=30), exact(1, root=6)).parts, ((5, 6, 1),))
        self.assertEqual(times(exact(1, bottom=6, root=30), exact(3, root=42)).parts, ((35, 3, 1),))
        self.assertEqual(times(exact(1, root=2), exact(-1, root=3)).parts, ((6, -1, 1),))

    def test_roots_of_all_primes(self):
        primes = primes_to(1000)
        half, other = number_of(1, 1, primes[::2]), number_of(1, 1, primes[1::2])
        product = 1
        for prime in primes:
            product *= prime
        whole = times(half, other)
        self.assertEqual(whole.parts, ((product, 1, 1),))
        self.assertEqual(times(whole, whole).parts, ((1, product, 1),))

    def test_many_figures(self):
        high = 10 ** 2999 + 9
        self.assertEqual(times(exact(high), exact(high, root=2)).parts, ((2, high * high, 1),))
        self.assertEqual(plus(exact(1, bottom=high), exact(-1, bottom=high)).parts, ())
        self.assertEqual(minus(exact(high), exact(-high)).parts, ((1, 2 * high, 1),))

    def test_nothing_handed_in_is_changed(self):
        one, other = made((1, 2, 1), (3, 5, 2)), made((-1, 2, 1), (1, 7, 3))
        before = (one.parts, other.parts)
        for work in (plus, minus, times):
            self.assertIsInstance(work(one, other), Exact)
            self.assertEqual((one.parts, other.parts), before)


class Refused(unittest.TestCase):
    def test_what_is_no_exact_number(self):
        for work in (plus, minus, times):
            for thing in NOT_EXACT:
                before = repr(thing) if thing != 10 ** 2999 else None
                for pair in [(thing, exact(1)), (exact(1), thing), (exact(0), thing), (thing, thing)]:
                    with self.assertRaises(NoNumber):
                        work(*pair)
                if before is not None:
                    self.assertEqual(repr(thing), before)


if __name__ == "__main__":
    unittest.main()
