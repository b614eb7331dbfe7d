"""The helpers on whole numbers that the exact numbers stand on."""

import math
import random
import unittest

from tests.plain import NOT_WHOLE, primes_to
from turncouple import whole


class Helpers(unittest.TestCase):
    def test_whole_numbers_are_ints_that_are_no_truths(self):
        for number in (0, 1, -1, 10 ** 3000):
            self.assertIs(whole.is_whole(number), True)
        for thing in NOT_WHOLE:
            self.assertIs(whole.is_whole(thing), False)

    def test_primes_are_all_below_1000(self):
        self.assertEqual(list(whole.PRIMES), primes_to(1000))

    def test_shared_and_lowest_terms(self):
        luck = random.Random(1)
        for high in (3, 30, 10 ** 40):
            for at in range(200):
                one, other = luck.randint(-high, high), luck.randint(-high, high)
                self.assertEqual(whole.shared(one, other), math.gcd(one, other))
                if other != 0:
                    top, bottom = whole.in_lowest(one, other)
                    self.assertEqual(top * other, one * bottom)
                    self.assertGreater(bottom, 0)
                    self.assertEqual(math.gcd(top, bottom), 1)

    def test_squares_are_taken_out(self):
        self.assertEqual(whole.squares_out(0), (0, 1, 1))
        self.assertEqual(whole.squares_out(1), (1, 1, 1))
        self.assertEqual(whole.squares_out(2 ** 5 * 997 ** 3 * 1009), (4 * 997, 2 * 997, 1009))
        for number in range(1, 2000):
            outside, inside, rest = whole.squares_out(number)
            self.assertEqual(outside * outside * inside * rest, number)
            self.assertFalse([k for k in range(2, 45) if inside % (k * k) == 0])
            self.assertTrue(rest == 1 or rest > 1000)

    def test_roots_are_rounded_down(self):
        luck = random.Random(2)
        numbers = list(range(3000)) + [luck.randrange(1 << luck.randint(1, 3000)) for at in range(300)]
        squares = [number * number for number in numbers if number > 0]
        for number in numbers + squares + [square - 1 for square in squares] + [square + 1 for square in squares]:
            self.assertEqual(whole.floor_root(number), math.isqrt(number))

    def test_figures_of_any_length(self):
        for count in (1, 2, 63, 64, 65, 127, 128, 129, 640, 4300, 4301, 9000):
            for text in ("1" + "0" * (count - 1), "9" * count, ("1234567890" * count)[:count]):
                number = whole.read_figures(text)
                self.assertEqual(whole.figures(number), text)
                if count <= 4300:
                    self.assertEqual(number, int(text))
                else:
                    self.assertEqual(number % 10 ** 4000, int(text[-4000:]))
                    self.assertEqual(number // 10 ** (count - 20), int(text[:20]))
        self.assertEqual(whole.figures(0), "0")

    def test_factorials_and_binomials(self):
        for high in (0, 1, 2, 5, 81):
            self.assertEqual(whole.factorials(high), [math.factorial(k) for k in range(high + 1)])
            self.assertEqual(whole.binomials(high), [math.comb(high, k) for k in range(high + 1)])
        for number in range(-5, 6):
            self.assertIs(whole.is_odd(number), abs(number) % 2 == 1)

    def test_primes_of_factorials(self):
        luck = random.Random(3)
        for at in range(200):
            above = [luck.randint(0, 81) for k in range(luck.randint(1, 12))]
            below = [luck.randint(0, 81) for k in range(luck.randint(1, 12))]
            top = math.prod(math.factorial(number) for number in above)
            bottom = math.prod(math.factorial(number) for number in below)
            for prime, power in whole.primes_of_factorials(above, below):
                top *= prime ** max(0, -power)
                bottom *= prime ** max(0, power)
            self.assertEqual(top, bottom)
        self.assertEqual(whole.primes_of_factorials([0], [1]), [])
        self.assertEqual(whole.primes_of_factorials([4], [2, 0]), [(2, 2), (3, 1)])

    def test_what_are_no_figures(self):
        for text in ("", " ", "-1", "+1", "1_0", " 1", "1 ", "1\n", "a", "1.0", "1/2", "\u0661", "\u00b2"):
            self.assertIsNone(whole.read_figures(text))


if __name__ == "__main__":
    unittest.main()
