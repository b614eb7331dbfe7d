"""Promises 4 and 6: what is written is read as the same, and nothing else is read."""

import unittest

from tests.plain import NOT_EXACT, made, number_of, primes_to, some_numbers
from turncouple.errors import NoText
from turncouple.numbers import Exact, exact, plus, read_exact, times

NUMBERS = [
    exact(0), exact(1), exact(-1), exact(17, bottom=4), exact(-17, bottom=4), exact(1, root=2), exact(-1, root=2),
    exact(2, root=2), exact(-1, bottom=2, root=997), made((1, 2, 1), (-1, 1, 3), (5, 7, 15)),
    exact(10 ** 2999), exact(-1, bottom=10 ** 2999, root=6), times(exact(10 ** 2999), exact(10 ** 2999 - 1)),
    number_of(-2, 3, [983, 991, 997]), number_of(1, 1, primes_to(1000)),
    plus(exact(1), number_of(-1, 5, primes_to(500))),
] + some_numbers(41, 60, [2, 3, 5, 7, 11]) + some_numbers(42, 20, [977, 983, 991, 997], terms=12, high=10 ** 20)

WRONG = [
    # nothing, blanks, line ends
    "", " ", "\n", " 0", "0 ", "0\n", "\n0", " 1", "1 ", "1\n", "1 + r2 ", " 1 + r2", "1  + r2", "1 +  r2", "1+ r2",
    "1 +r2", "1+r2", "1\n+ r2", "- 1", "- r2", "1 / 2", "1/ 2", "2 *r2", "2* r2", "r 2", "1 + r2\n",
    # signs
    "+1", "+0", "-0", "+r2", "--1", "-+1", "1 + -r2", "1 - -r2", "1 + + r2", "1 - + r2", "1 -- r2", "1 * r2", "1 r2",
    "1 +", "1 -", "+ 1", "+", "-", "1 + r2 +", "-1/-2", "1/-2", "2*-r2", "r-2", "1 ~ r2",
    # orders, the same root twice
    "r2 + 1", "r3 + r2", "1 + r3 - r2", "r10 + r2", "1 + 1", "1 - 1", "r2 + r2", "1 + r2 + r2", "1/2 + 1/3",
    # noughts
    "0 + 1", "1 + 0", "0*r2", "1 + 0*r2", "0/1", "0/2", "1/0", "0/0", "r0", "2*r0", "1 + r0", "00", "-0/1",
    # fractions not in lowest terms, bottoms and fractions of 1
    "2/4", "2/2", "6/3", "3/1", "1/1", "1/1*r2", "2/4*r2", "1*r2", "-1*r2", "1 + 1*r2", "1 - 3/1*r2", "4/6 + r2",
    # noughts ahead
    "01", "-01", "1/02", "01/2", "r02", "02*r2", "2*r02", "1 + 01*r2", "000000",
    # roots of 1, with squares, with primes above 1000
    "r1", "2*r1", "1 + r1", "r4", "r8", "r12", "2*r9", "r994009", "1 + r50", "r1000000", "r1009", "r2018", "r1018081",
    "1 + r999983", "r1000003", "2/3*r1009", "1 + r2 + r1009",
    # signs that are none
    "a", "r", "*", "/", "*r2", "/2", "1/", "1/2/3", "r2r3", "r2*r3", "2*r2*r3", "2r2", "23r2", "1/2r2", "2**r2", "2*2",
    "r2*2", "R2", "1.5", "1e3", "1_000", "0x1", "1,2", "Exact(1)", "Exact(0)", "None", "True", "sqrt2", "2*r", "r+2",
    "1 + r", "1 + *r2", "'1'", "(1)", "2*rr2", "1/r2", "r2/2", "3*r2/5", "1 + 2*", "1;r2",
]


class Read(unittest.TestCase):
    def test_what_is_written_is_read_as_the_same(self):
        for number in NUMBERS:
            read = read_exact(str(number))
            self.assertIsInstance(read, Exact)
            self.assertEqual(read, number)
            self.assertEqual(read.parts, number.parts)
            self.assertIs(type(read.parts), tuple)

    def test_ordinary_texts(self):
        for text, due in [
            ("0", ()), ("1", ((1, 1, 1),)), ("-1", ((1, -1, 1),)), ("-3/2", ((1, -3, 2),)), ("r2", ((2, 1, 1),)),
            ("-r2", ((2, -1, 1),)), ("-5/7*r15", ((15, -5, 7),)),
            ("1/2 - r3 + 5/7*r15", ((1, 1, 2), (3, -1, 1), (15, 5, 7))),
            ("-10 - 10*r10", ((1, -10, 1), (10, -10, 1))), ("r997", ((997, 1, 1),)),
        ]:
            self.assertEqual(read_exact(text).parts, due)

    def test_roots_above_1000000(self):
        self.assertEqual(read_exact(f"2*r{991 * 997 * 983}").parts, ((991 * 997 * 983, 2, 1),))
        for root in (991 * 997 * 1009, 991 * 991 * 997 * 2, 4 * 983 * 991 * 997, 1009 * 1013):
            with self.assertRaises(NoText):
                read_exact(f"2*r{root}")


class Refused(unittest.TestCase):
    def refused(self, thing):
        with self.assertRaises(NoText) as told:
            read_exact(thing)
        self.assertEqual(told.exception.row, 0)

    def test_other_texts(self):
        for text in WRONG:
            with self.subTest(text):
                self.refused(text)

    def test_long_texts(self):
        for text in ["0" * 5000, "0" * 5000 + "1", "1" + "0" * 5999 + "/2", "r" + "4" * 5000, "1 + " * 500 + "r2",
                     "-" * 3000, " " * 3000, "r" * 3000, "1/" * 1000 + "2", "r2 + " * 400 + "r3"]:
            self.refused(text)

    def test_one_sign_more_or_less_or_other(self):
        # Whatever is read is written again as it was; all else is refused.
        for text in ["0", "-3/2", "r2", "1/2 - r3 + 5/7*r15", "-12*r30 + r31"]:
            near = [text[:at] + text[at + 1:] for at in range(len(text))]
            for sign in "01249/*r+- \n~":
                near += [text[:at] + sign + text[at:] for at in range(len(text) + 1)]
                near += [text[:at] + sign + text[at + 1:] for at in range(len(text))]
            for other in near:
                try:
                    self.assertEqual(str(read_exact(other)), other)
                except NoText as told:
                    self.assertEqual(told.row, 0)

    def test_what_is_no_text(self):
        for thing in [*NOT_EXACT, exact(1), exact(0), b"1", 1]:
            if not isinstance(thing, str):
                self.refused(thing)


if __name__ == "__main__":
    unittest.main()
