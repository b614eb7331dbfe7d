"""The names and arguments of the document's interface, as far as it is built."""

import inspect
import unittest

from turncouple import numbers, powers, sixes, threes, turns

WRITTEN = {
    numbers: ["exact(top, *, bottom=1, root=1)", "plus(one, other)", "minus(one, other)", "times(one, other)",
              "over(one, other)", "root_of(one)", "read_exact(text)", "sign(one)", "is_less(one, other)"],
    turns: ["offsets(size)", "may_join(one, other, third)", "sizes_of(one, other)", "joined(one, other, *, to)",
            "ladder(one, other, *, to)", "table(one, other)"],
    threes: ["three(one, other, third)", "square_of(one, other, third)", "of_square(square)",
             "least_three(one, other, third)", "why_three(one, other, third)", "alike_threes(triple, other)"],
    sixes: ["six(a, b, c, d, e, f)", "six_by_threes(a, b, c, d, e, f)", "nine(rows)", "nine_by_threes(rows)",
            "forms_of(a, b, c, d, e, f)", "why_six(a, b, c, d, e, f)", "why_nine(rows)", "alike_sixes(sizes, others)"],
    powers: ["powers(p, q, r)", "three_by_powers(one, other, third)"],
}


class Interface(unittest.TestCase):
    def test_names_and_arguments(self):
        for module, rows in WRITTEN.items():
            for row in rows:
                name = row.partition("(")[0]
                self.assertEqual(name + str(inspect.signature(getattr(module, name))), row)


if __name__ == "__main__":
    unittest.main()
