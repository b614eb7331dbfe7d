"""Promises 4 and 27: labelled trees and standings written, and read back."""

import random
import unittest

from tests.stood import OTHER_THINGS, drawn_labelled, drawn_standing, drawn_turns
from tests.test_trees import SIX, chain_labelled, wrong_labelled
from tests.told import refused
from turncouple.errors import NoStanding, NoText, NoTree
from turncouple.halves import turned_standing
from turncouple.numbers import exact, plus
from turncouple.standings import Standing
from turncouple.texts import read_standing, read_tree, show_standing, show_tree
from turncouple.trees import stands

SIGNS = [chr(code) for code in range(32, 127)] + ["\n"]
TREE = ((("c", 2), ("d", 1), 1), ("e", 1), 2)
STANDING = Standing((("a", 1), ("b", 2)), {
    (-1, 0): exact(1), (-1, 2): exact(-1, bottom=2, root=3), (1, -2): plus(exact(1, bottom=2), exact(-1, root=3)),
    (1, 2): exact(5, bottom=7, root=15),
})
TEXT = "a:1 b:2\n-1 0 = 1\n-1 2 = -1/2*r3\n1 -2 = 1/2 - r3\n1 2 = 5/7*r15"
NOT_TEXTS = [thing for thing in OTHER_THINGS if not isinstance(thing, str)] + [["a:1"], ("a", 1), {"a:1": 1}, STANDING]


def bent(text):
    """All texts that are bent in one place: a sign away, put in, exchanged, two neighbours exchanged."""
    for at in range(len(text) + 1):
        yield text[:at] + text[at + 1:]
        for sign in " :()-0129ab=r*/+\nz":
            yield text[:at] + sign + text[at:]
            yield text[:at] + sign + text[at + 1:]
        yield text[:at] + text[at + 1:at + 2] + text[at:at + 1] + text[at + 2:]


class Checked(unittest.TestCase):
    def no_text(self, read, text, row):
        with self.assertRaises(NoText) as caught:
            read(text)
        self.assertIs(type(caught.exception), NoText)
        self.assertEqual(caught.exception.row, row, text)
        self.assertIs(type(caught.exception.row), int)


class Trees(Checked):
    def test_known_ones(self):
        for labelled, text in [(("a", 2), "a:2"), (("abcdefgh", 0), "abcdefgh:0"), ((("a", 1), ("b", 1), 0), "(a:1 b:1):0"),
                               (TREE, "((c:2 d:1):1 e:1):2"), ((("e", 1), TREE[0], 2), "(e:1 (c:2 d:1):1):2"),
                               (((("a", 8), ("b", 8), 16), (("c", 8), ("d", 8), 12), 10),
                                "((a:8 b:8):16 (c:8 d:8):12):10")]:
            self.assertEqual(show_tree(labelled), text)
            self.assertEqual(read_tree(text), labelled)
        self.assertEqual(show_tree(SIX), "(((((a:8 b:8):16 c:8):24 d:8):32 e:8):40 f:8):40")

    def test_written_and_read_back(self):
        luck = random.Random(27)
        for at in range(150):
            labelled = drawn_labelled(luck, drawn_turns(luck, luck.randint(1, 6), most=10 ** 6))
            text = show_tree(labelled)
            self.assertIs(type(text), str)
            self.assertEqual(read_tree(text), labelled)
        self.assertEqual(read_tree(show_tree(SIX)), SIX)

    def test_bent_in_one_place(self):
        for text in ["a:2", "(a:1 b:1):0", show_tree(TREE), "((a:8 b:8):16 (c:8 d:8):12):10"]:
            read = refused_ones = 0
            for other in bent(text):
                try:
                    labelled = read_tree(other)
                except NoText as refusal:
                    self.assertEqual(refusal.row, 0)
                    refused_ones += 1
                else:
                    # What is read is written just so.
                    self.assertEqual(show_tree(labelled), other)
                    read += 1
            self.assertGreater(read, 0)
            self.assertGreater(refused_ones, read)

    def test_other_texts(self):
        for text in ["", " ", "a", "a:", ":1", "a:1 ", " a:1", "a :1", "a: 1", "a:01", "a:+1", "a:-1", "a:9", "a:40", "A:1",
                     "a1:1", "abcdefghi:1", "a:1:1", "a:1\n", "\na:1", "a:1 b:1", "(a:1)", "(a:1):1", "(a:1 b:1)", "(a:1 b:1):",
                     "(a:1 b:1):1", "(a:1 b:1):4", "(a:1 b:1):00", "(a:1 b:1):02", "( a:1 b:1):0", "(a:1 b:1 ):0",
                     "(a:1  b:1):0", "(a:1,b:1):0", "(a:1b:1):0", "(a:1 a:1):0", "(a:1 b:1):0)", "((a:1 b:1):0", "a:1 b:1):0",
                     "(a:1 b:1 c:1):1", "((a:1 b:1):0):0", "(((a:1 b:1):0)):0", "()", "():0", "( ):0", "(a:1 ):1", "( a:1):1",
                     "((a:1 b:1) c:1):1", "(a:1 (b:1 c:1)):1", "[a:1 b:1]:0", "(a:1\nb:1):0", "None", "('a', 1)", "0", "r2",
                     "(a:8 b:8):17", "(a:8 b:8):18", "(a:1 b:1):0 ", "(a:1 b:1):0\n", "(a:1 b:1): 0", "(a:1 b:1) :0",
                     "(a:1 b:1):0:0", "(a:0 b:0):0(", "a:1)", "(a:1", "a:" + "1" * 5000, "a" * 5000 + ":1"]:
            self.no_text(read_tree, text, 0)
        seven = show_tree(chain_labelled([(name, 0) for name in "abcdef"], [0] * 5))
        self.no_text(read_tree, f"({seven} g:0):0", 0)
        self.no_text(read_tree, "(((((a:8 b:8):16 c:8):24 d:8):32 e:8):40 f:8):48", 0)

    def test_many_brackets(self):
        for many in (7, 100, 5000, 200000):
            for text in ["(" * many, ")" * many, "()" * many, "(" * many + "a:1" + ")" * many, " " * many, "(a:1 " * many,
                         "(" * many + "a:0" + " b:0):0" * many, ("(" * many) + ("):0" * many), ":" * many, "(:" * many]:
                self.no_text(read_tree, text, 0)
                self.no_text(read_standing, text, 0)

    def test_what_is_no_text(self):
        for thing in NOT_TEXTS:
            self.no_text(read_tree, thing, 0)

    def test_no_tree(self):
        for thing in wrong_labelled():
            refused(self, NoTree, show_tree, thing)


class Standings(Checked):
    def test_known_ones(self):
        self.assertEqual(show_standing(STANDING), TEXT)
        self.assertEqual(read_standing(TEXT), STANDING)
        self.assertEqual(show_standing(Standing((("b", 0),), {})), "b:0")
        self.assertEqual(read_standing("b:0"), Standing((("b", 0),), {}))
        self.assertEqual(show_standing(Standing((("b", 0),), {(0,): exact(-3)})), "b:0\n0 = -3")
        pair = stands((("a", 1), ("b", 1), 0), offset=0)
        self.assertEqual(show_standing(pair), "a:1 b:1\n-1 1 = -1/2*r2\n1 -1 = 1/2*r2")

    def test_written_and_read_back(self):
        luck = random.Random(72)
        for at in range(60):
            turns = drawn_turns(luck, luck.randint(1, 6), most=128)
            standing = drawn_standing(luck, turns)
            if at % 2:
                standing = turned_standing(standing, [turns[0][0]], ((20, 29), (-21, 29)))
            text = show_standing(standing)
            self.assertIs(type(text), str)
            self.assertEqual(read_standing(text), standing)
            rows = text.split("\n")
            self.assertEqual(len(rows), 1 + len(standing.numbers()))
            # Rising by tuples of offsets, not by their texts.
            places = [tuple(int(word) for word in row.split(" = ")[0].split(" ")) for row in rows[1:]]
            self.assertEqual(places, sorted(places))

    def test_long_numbers(self):
        standing = Standing((("a", 1),), {(1,): exact(10 ** 5000 + 1, bottom=7 ** 6000, root=6)})
        self.assertEqual(read_standing(show_standing(standing)), standing)

    def test_bent_in_one_place(self):
        starts = [at for at in range(len(TEXT) + 1) if at == 0 or TEXT[at - 1] == "\n"]
        read = 0
        for other in bent(TEXT):
            try:
                standing = read_standing(other)
            except NoText as refusal:
                same = 0
                while other[same:same + 1] == TEXT[same:same + 1] != "":
                    same += 1
                # No row that ends ahead of the bent place is wrong.
                self.assertGreaterEqual(refusal.row + 1, len([at for at in starts if at <= same]) - 1)
                self.assertLess(refusal.row, len(other.split("\n")))
            else:
                self.assertEqual(show_standing(standing), other)
                read += 1
        self.assertGreater(read, 20)

    def test_the_row_that_is_told(self):
        rows = TEXT.split("\n")
        wrong_rows = ["", " ", "-1 0", "-1 0 =", "-1 0 = ", "-1 0 =1", "-1 0= 1", "-1  0 = 1", " -1 0 = 1", "-1 0 = 1 ",
                      "-1 0  = 1", "-1 0 =  1", "-1,0 = 1", "-1 0 = 0", "-1 0 = -0", "-1 0 = 01", "-1 0 = +1", "-1 0 = 2/4",
                      "-1 0 = 1/1", "-1 0 = r4", "-1 0 = 1*r3", "-1 0 = r3 + 1", "-1 0 = x", "-1 = 1", "-1 0 0 = 1",
                      "-1 1 = 1", "0 0 = 1", "3 0 = 1", "-1 4 = 1", "-01 0 = 1", "-1 00 = 1", "-1 -0 = 1", "-1 +0 = 1",
                      "+1 0 = 1", "a 0 = 1", "-1 0 == 1", "-1 0 = 1 = 1", "-1 0 = r1009", "- 1 0 = 1", "-1\t0 = 1",
                      "a:1 b:2", "-1 0 = 1/0", "-1 0 = 0/1", "-1 0 = r1", "-1 0 = 1 + 1", "-1 0 = 0*r3", "True 0 = 1",
                      "1" * 5000 + " 0 = 1"]
        for wrong in wrong_rows:
            self.no_text(read_standing, "\n".join([rows[0], wrong]), 1)
            self.no_text(read_standing, "\n".join([rows[0], wrong, wrong]), 1)
            for at in range(1, len(rows)):
                self.no_text(read_standing, "\n".join(rows[:at] + [wrong] + rows[at + 1:]), at)
                self.no_text(read_standing, "\n".join(rows[:at] + [wrong] + rows[at:]), at)
            self.no_text(read_standing, "\n".join(rows + [wrong]), len(rows))
        # Twice, exchanged.
        for at in range(1, len(rows)):
            self.no_text(read_standing, "\n".join(rows[:at + 1] + rows[at:]), at + 1)
            for far in range(at + 1, len(rows)):
                order = list(rows)
                order[at], order[far] = order[far], order[at]
                self.no_text(read_standing, "\n".join(order), at + 1)
            # One away is another standing.
            self.assertEqual(len(read_standing("\n".join(rows[:at] + rows[at + 1:])).numbers()), 3)
        self.no_text(read_standing, TEXT + "\n", len(rows))
        self.no_text(read_standing, "\n" + TEXT, 0)
        self.no_text(read_standing, TEXT.replace("\n", "\n\n", 1), 1)
        self.no_text(read_standing, "\n".join(rows[1:]), 0)
        # Rising by offsets, not by their texts.
        self.assertEqual(len(read_standing("a:8\n-8 = 1\n-4 = 1\n-2 = 1\n0 = 1\n2 = 1").numbers()), 5)
        self.no_text(read_standing, "a:8\n-2 = 1\n-4 = 1", 2)

    def test_the_row_of_the_turns(self):
        for turns in ["", " ", "a", "a:", ":1", "a:9", "a:40", "a:01", "a:-1", "a:+1", "A:1", "abcdefghi:1", "a:1 ", " a:1",
                      "a:1  b:1", "a:1,b:1", "a:1 a:1", "a:1 a:2", "a:1:1", "a :1", "(a:1 b:1):0", "a:8 b:8 c:1", "1:a", "a1:1",
                      "a:0 b:0 c:0 d:0 e:0 f:0 g:0", "a:8 b:8 c:8 d:8 e:8 f:8", "a:1\tb:1", "a:1 b", "a:1 b:", "a:None"]:
            for more in ["", "\n", "\n1 = 1", "\n1 1 = 0", "\nx\ny"]:
                self.no_text(read_standing, turns + more, 0)
        for turns in ["a:8 b:8", "a:7 b:7 c:1", "a:0 b:0 c:0 d:0 e:0 f:0", "zzzzzzzz:8 aaaaaaaa:0"]:
            self.assertEqual(show_standing(read_standing(turns)), turns)

    def test_what_is_no_text(self):
        for thing in NOT_TEXTS:
            self.no_text(read_standing, thing, 0)

    def test_no_standing(self):
        for thing in [*OTHER_THINGS, TEXT, STANDING.numbers(), STANDING.turns()]:
            refused(self, NoStanding, show_standing, thing)


class Drawn(Checked):
    def test_drawn_texts(self):
        luck = random.Random(73)
        for at in range(3000):
            text = "".join(luck.choice("ab:12 ()\n=-r/*") for k in range(luck.randint(0, 12)))
            for read, show in [(read_tree, show_tree), (read_standing, show_standing)]:
                try:
                    told = read(text)
                except NoText:
                    continue
                self.assertEqual(show(told), text)

    def test_each_sign(self):
        for sign in SIGNS:
            for text in [sign, "a:1" + sign, sign + "a:1", "a" + sign + "1", f"(a:1{sign}b:1):0"]:
                try:
                    self.assertEqual(show_tree(read_tree(text)), text)
                except NoText as refusal:
                    self.assertEqual(refusal.row, 0)


if __name__ == "__main__":
    unittest.main()
