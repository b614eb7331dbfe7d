"""Promise 6: root_of."""

import random
import unittest
from math import factorial, prod

from tests.plain import NOT_EXACT, made, number_of, primes_to
from turncouple.errors import NoNumber
from turncouple.numbers import Exact, exact, root_of, root_of_factorials, sign, times


class Roots(unittest.TestCase):
    def test_ordinary_ones(self):
        for top, bottom, due in [
            (0, 1, ()), (1, 1, ((1, 1, 1),)), (4, 1, ((1, 2, 1),)), (1, 4, ((1, 1, 2),)), (9, 16, ((1, 3, 4),)),
            (2, 1, ((2, 1, 1),)), (1, 2, ((2, 1, 2),)), (12, 1, ((3, 2, 1),)), (3, 2, ((6, 1, 2),)),
            (8, 27, ((6, 2, 9),)), (18, 5, ((10, 3, 5),)), (50, 3, ((6, 5, 3),)), (997, 1, ((997, 1, 1),)),
            (1, 997, ((997, 1, 997),)), (997 * 997, 991, ((991, 997, 991),)), (10 ** 6, 1, ((1, 1000, 1),)),
        ]:
            self.assertEqual(root_of(exact(top, bottom=bottom)).parts, due)

    def test_the_square_of_each_is_it(self):
        for top in range(0, 60):
            for bottom in range(1, 40):
                one = exact(top, bottom=bottom)
                root = root_of(one)
                self.assertIsInstance(root, Exact)
                self.assertLessEqual(len(root.parts), 1)
                self.assertEqual(times(root, root), one)
                self.assertEqual(sign(root), 1 if top > 0 else 0)

    def test_sixty_figures(self):
        high = 10 ** 59
        self.assertEqual(root_of(exact(high)).parts, ((10, 10 ** 29, 1),))
        self.assertEqual(root_of(exact(1, bottom=high)).parts, ((10, 1, 10 ** 30),))
        # Both have just sixty figures, and share no prime.
        top, bottom = 2 ** 199, 3 ** 125
        self.assertEqual((len(str(top)), len(str(bottom))), (60, 60))
        self.assertEqual(root_of(exact(top, bottom=bottom)).parts, ((6, 2 ** 99, 3 ** 63),))
        product = 1
        for prime in primes_to(1000)[:30]:
            product *= prime
        self.assertEqual(root_of(exact(product)).parts, ((product, 1, 1),))

    def test_sixty_one_figures(self):
        for number in (10 ** 60, 2 ** 200, 3 ** 126, 10 ** 2999):
            self.assertGreaterEqual(len(str(number)), 61)
            for fraction in (exact(number), exact(1, bottom=number)):
                with self.assertRaises(NoNumber):
                    root_of(fraction)

    def test_primes_above_1000(self):
        for number in (1009, 2 * 1009, 1009 * 1009, 4 * 1009 * 1009, 1009 ** 3, 10 ** 9 + 7, 1000003):
            for fraction in (exact(number), exact(1, bottom=number), exact(2, bottom=3 * number)):
                with self.assertRaises(NoNumber):
                    root_of(fraction)

    def test_shared_primes_above_1000_are_gone(self):
        self.assertEqual(root_of(exact(4 * 1009, bottom=1009)).parts, ((1, 2, 1),))

    def test_below_nought(self):
        for number in (exact(-1), exact(-4), exact(-1, bottom=4), exact(-1, bottom=10 ** 60)):
            with self.assertRaises(NoNumber):
                root_of(number)

    def test_numbers_with_roots(self):
        for number in (exact(1, root=2), exact(2, bottom=3, root=5), exact(-1, root=2), made((1, 1, 1), (1, 1, 2)),
                       made((3, 1, 1), (2, 1, 2)), made((3, 1, 1), (-2, 1, 2)), number_of(1, 1, primes_to(50))):
            before = number.parts
            with self.assertRaises(NoNumber):
                root_of(number)
            self.assertEqual(number.parts, before)

    def test_a_root_that_is_squared_away(self):
        self.assertEqual(root_of(exact(1, root=4)).parts, ((2, 1, 1),))
        self.assertEqual(root_of(exact(1, root=0)).parts, ())

    def test_roots_of_factorials(self):
        self.assertEqual(root_of_factorials([0], [1]).parts, ((1, 1, 1),))
        self.assertEqual(root_of_factorials([3], [4]).parts, ((1, 1, 2),))
        self.assertEqual(root_of_factorials([2, 3], [5]).parts, ((10, 1, 10),))
        luck = random.Random(1)
        for at in range(100):
            above, below = [[luck.randint(0, 81) for k in range(9)] for side in range(2)]
            root = root_of_factorials(above, below)
            top, bottom = prod(factorial(number) for number in above), prod(factorial(number) for number in below)
            self.assertEqual(times(root, root), exact(top, bottom=bottom))
            self.assertEqual(sign(root), 1)
            # Its parts are just as those of any other number.
            self.assertEqual(times(root, exact(1)).parts, root.parts)

    def test_what_is_no_exact_number(self):
        for thing in NOT_EXACT:
            with self.assertRaises(NoNumber):
                root_of(thing)


if __name__ == "__main__":
    unittest.main()
