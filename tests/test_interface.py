"""The names and arguments of the document's interface."""

import inspect
import unittest

from turncouple import (benches, halves, links, many, nets, numbers, powers, sixes, standings, texts, threes, trees,
                        turns)
from turncouple.numbers import exact
from turncouple.standings import Standing

WRITTEN = {
    numbers: ["exact(top, *, bottom=1, root=1)", "plus(one, other)", "minus(one, other)", "times(one, other)",
              "over(one, other)", "root_of(one)", "read_exact(text)", "sign(one)", "is_less(one, other)"],
    turns: ["offsets(size)", "may_join(one, other, third)", "sizes_of(one, other)", "joined(one, other, *, to)",
            "ladder(one, other, *, to)", "table(one, other)"],
    threes: ["three(one, other, third)", "square_of(one, other, third)", "of_square(square)",
             "least_three(one, other, third)", "why_three(one, other, third)", "alike_threes(triple, other)"],
    sixes: ["six(a, b, c, d, e, f)", "six_by_threes(a, b, c, d, e, f)", "nine(rows)", "nine_by_threes(rows)",
            "forms_of(a, b, c, d, e, f)", "why_six(a, b, c, d, e, f)", "why_nine(rows)", "alike_sixes(sizes, others)"],
    powers: ["powers(p, q, r)", "three_by_powers(one, other, third)"],
    nets: ["worth(net)", "reduced(net)", "can_be(net)", "is_reduction(net, steps)"],
    many: ["counted(row, *, to)", "counted_by_offsets(row, *, to)", "place_of(row, label, *, to)", "labels(row, *, to)",
           "label_at(row, place, *, to)"],
    standings: ["Standing(turns, numbers)", "held(one, other)", "beside(one, other)", "added(one, other)",
                "scaled(one, number)", "is_along(one, other)", "parted(standing, names)"],
    trees: ["tree_of(labelled)", "plain_tree(tree)", "stands(labelled, *, offset)", "recoupled(one, other)", "moves(tree)",
            "way(tree, other)", "depths(tree)", "led(labelled, steps)"],
    halves: ["turned(size, u, v, half)", "both_halves(one, other)", "back_half(half)",
             "turned_standing(standing, names, half)"],
    links: ["resolved(linking, *, by, to)", "linked(tensors, *, by, to)", "rank_of(linking, *, by, to)"],
    benches: ["Bench(*, most=100)"],
    texts: ["show_tree(labelled)", "show_standing(standing)", "read_tree(text)", "read_standing(text)"],
}
METHODS = {
    standings.Standing: ["turns(self)", "at(self, offsets)", "numbers(self)"],
    benches.Bench: ["do(self, deed)", "run(self, deeds)", "undo(self)", "again(self)", "square(self)",
                    "shares(self, question)", "shares_of(self, questions)", "names(self)", "done(self)", "standing(self)",
                    "go_with(self, question, other)"],
}


class Interface(unittest.TestCase):
    def test_names_and_arguments(self):
        for module, rows in WRITTEN.items():
            for row in rows:
                name = row.partition("(")[0]
                self.assertEqual(name + str(inspect.signature(getattr(module, name))), row)

    def test_methods_stand_in_their_class(self):
        for made, rows in METHODS.items():
            for row in rows:
                name = row.partition("(")[0]
                self.assertEqual(name + str(inspect.signature(vars(made)[name])), row)

    def test_fields_and_values(self):
        self.assertEqual(numbers.exact(3).parts, ((1, 3, 1),))
        self.assertEqual(benches.MOST, 100)
        self.assertIsInstance(benches.Bench(), benches.Bench)
        self.assertIs(type(numbers.exact(3)), numbers.Exact)

    def test_what_stands_behind_a_star_is_handed_in_by_its_name(self):
        linking, tree = {(1, 0): exact(1)}, (("a", 1), ("b", 2), 3)
        for given, told in [
            (many.counted([1, 2], to=3), 1), (many.counted_by_offsets([1, 2], to=3), 1), (many.labels([1, 2], to=3), [(3,)]),
            (many.label_at([1, 2], 0, to=3), (3,)), (many.place_of([1, 2], (3,), to=3), 0),
            (trees.stands(tree, offset=3), Standing((("a", 1), ("b", 2)), {(1, 2): exact(1)})),
        ]:
            self.assertEqual(given, told)
        self.assertEqual(links.rank_of({(1, 0): exact(1), (-1, 0): exact(1)}, to=1, by=0), 1)
        self.assertEqual(links.resolved({(1, 0): exact(1)}, to=1, by=0), links.resolved({(1, 0): exact(1)}, by=0, to=1))
        self.assertEqual(links.linked([(1, 1, exact(1))], to=1, by=0), {(1, 0): exact(1)})
        for work, things in [(many.counted, ([1, 2], 3)), (links.resolved, (linking, 0, 1)), (trees.stands, (tree, 3)),
                             (benches.Bench, (100,))]:
            with self.assertRaises(TypeError):
                work(*things)


if __name__ == "__main__":
    unittest.main()
