"""Exact numbers: sums of fractions times roots of unlike whole numbers without a square in them."""

from turncouple.errors import ByNought, NoNumber, NoText, TooWide
from turncouple.whole import figures, floor_root, in_lowest, is_odd, is_whole, primes_in, primes_of_factorials
from turncouple.whole import read_figures, shared, squares_out, sum_in_lowest

HIGHEST_ROOT = 1000000
MOST_PRIMES = 6
# The least number of sixty-one figures.
TOO_LONG = 10 ** 60
# The bits behind the point with which the search for a sign begins.
FIRST_BITS = 64


class Exact:
    """An exact number; parts has its (root, top, bottom), roots rising. The functions below make them."""

    def __init__(self, parts):
        self.parts = parts

    def __eq__(self, other):
        return isinstance(other, Exact) and self.parts == other.parts

    def __str__(self):
        return str(text_of(self.parts))

    def __repr__(self):
        return f"Exact({text_of(self.parts)})"


def exact(top, *, bottom=1, root=1):
    """The number top / bottom times the root of root."""
    if not (is_whole(top) and is_whole(bottom) and is_whole(root) and 0 <= root <= HIGHEST_ROOT):
        raise NoNumber("top and bottom are whole numbers, the root is one from 0 to 1000000")
    outside, inside, rest = squares_out(root)
    if rest != 1:
        raise NoNumber("the primes in a root are below 1000")
    if bottom == 0:
        raise ByNought("a bottom of 0")
    return lowered({inside: top * outside}, bottom)


def plus(one, other):
    """The sum."""
    need_exact(one)
    need_exact(other)
    return Exact(merged(one.parts, other.parts))


def minus(one, other):
    """The difference."""
    need_exact(one)
    need_exact(other)
    return Exact(merged(one.parts, [(root, -top, bottom) for root, top, bottom in other.parts]))


def times(one, other):
    """The product."""
    need_exact(one)
    need_exact(other)
    tops, bottom = on_one_bottom(one.parts)
    others, below = on_one_bottom(other.parts)
    return lowered(products(tops, others), bottom * below)


def over(one, other):
    """The quotient."""
    need_exact(one)
    need_exact(other)
    if other.parts == ():
        raise ByNought("a number over 0")
    primes = primes_of_roots(other.parts)
    if len(primes) > MOST_PRIMES:
        raise TooWide("more than six primes in the roots below")
    tops, bottom = on_one_bottom(one.parts)
    others, below = upside_down(other.parts, primes)
    return lowered(products(tops, others), bottom * below)


def sign(one):
    """1, 0 or -1."""
    need_exact(one)
    if one.parts == ():
        return 0
    bits = FIRST_BITS
    # Roots of unlike numbers without squares never add up to 0, so enough bits always tell.
    while True:
        low, high = bounds(one.parts, bits)
        if low >= 0:
            return 1
        if high <= 0:
            return -1
        bits *= 2


def is_less(one, other):
    """Whether the first one is below the other."""
    return sign(minus(one, other)) == -1


def root_of(one):
    """The root of a fraction from 0 on."""
    need_exact(one)
    if one.parts == ():
        return one
    root, top, bottom = one.parts[0]
    if len(one.parts) > 1 or root != 1 or top < 0:
        raise NoNumber("a root is told of a fraction that isn't below 0")
    if top >= TOO_LONG or bottom >= TOO_LONG:
        raise NoNumber("a fraction of more than sixty figures")
    outside, inside, rest = squares_out(top)
    outside_below, inside_below, rest_below = squares_out(bottom)
    if rest != 1 or rest_below != 1:
        raise NoNumber("the primes in a fraction are below 1000")
    # Top and bottom share no prime, so the two insides together have no square in them.
    return lowered({inside * inside_below: outside}, outside_below * inside_below)


def read_exact(text):
    """The number that str writes as this text."""
    if not isinstance(text, str):
        raise NoText(0)
    parts = parts_in(text)
    # Many texts can be understood as one number, but only one of them is written so.
    if parts is None or not are_parts(parts) or text_of(parts) != text:
        raise NoText(0)
    return Exact(tuple(parts))


def root_of_factorials(above, below):
    """The root of the product of n! of all n above over that of all n below, none above 1000."""
    root, top, bottom = 1, 1, 1
    for prime, power in primes_of_factorials(above, below):
        # Rounded down, so that of a power below 0, too, at most one prime stays in the root, and above.
        half = power // 2
        for turn in range(half):
            top *= prime
        for turn in range(-half):
            bottom *= prime
        if is_odd(power):
            root *= prime
    return Exact(((root, top, bottom),))


def add_at(table, key, number):
    """Add an exact number to what a dict has at a key."""
    table[key] = plus(table[key], number) if key in table else number


def without_noughts(table):
    """A new dict of all exact numbers of one that aren't 0."""
    return {key: number for key, number in table.items() if number.parts != ()}


def whole_times(table):
    """(dict, bottom): the exact numbers of a dict taken bottom times, so that no fraction stays in them.

    Sums of such numbers are found much faster where the bottoms are long.
    """
    common = 1
    for number in table.values():
        for root, top, bottom in number.parts:
            common = common // shared(common, bottom) * bottom
    return {key: times(number, exact(common)) for key, number in table.items()}, common


def all_over(table, bottom):
    """A dict of the exact numbers of one, each over the bottom."""
    return {key: times(number, exact(1, bottom=bottom)) for key, number in table.items()}


def sum_of_squares(numbers):
    """The sum of the squares of a list of exact numbers."""
    total = exact(0)
    for number in numbers:
        total = plus(total, times(number, number))
    return total


def need_exact(thing):
    """Refuse what is no exact number."""
    if not isinstance(thing, Exact):
        raise NoNumber("no exact number")


def merged(parts, others):
    """The parts of the sum of two numbers, told by theirs."""
    fractions = {root: (top, bottom) for root, top, bottom in parts}
    for root, top, bottom in others:
        if root in fractions:
            first, below = fractions[root]
            fractions[root] = sum_in_lowest(first, below, top, bottom)
        else:
            fractions[root] = (top, bottom)
    kept = []
    for root in sorted(list(fractions)):
        top, bottom = fractions[root]
        if top != 0:
            kept.append((root, top, bottom))
    return tuple(kept)


def on_one_bottom(parts):
    """A dict from roots to whole tops, and the one bottom that is below them all."""
    common = 1
    for root, top, bottom in parts:
        common = common // shared(common, bottom) * bottom
    return {root: top * (common // bottom) for root, top, bottom in parts}, common


def lowered(tops, bottom):
    """The exact number of whole tops by their roots over one bottom, which isn't 0."""
    parts = []
    for root in sorted(list(tops)):
        if tops[root] != 0:
            top, below = in_lowest(tops[root], bottom)
            parts.append((root, top, below))
    return Exact(tuple(parts))


def products(tops, others):
    """The product of two sums of whole tops times roots, without those that come to 0."""
    found = {}
    for root, top in tops.items():
        for by, number in others.items():
            common = shared(root, by)
            left = (root // common) * (by // common)
            found[left] = found.get(left, 0) + top * number * common
    return {root: top for root, top in found.items() if top != 0}


def primes_of_roots(parts):
    """The rising list of all primes in the roots."""
    together = 1
    for root, top, bottom in parts:
        together *= root // shared(together, root)
    return primes_in(together)


def upside_down(parts, primes):
    """1 over a number that isn't 0, by its parts and the primes in their roots: whole tops, and their bottom."""
    below, bottom = on_one_bottom(parts)
    above = {1: bottom}
    for prime in primes:
        if any([root % prime == 0 for root in below]):
            # Times its mirror a number has no root of this prime left in it.
            mirror = {root: -top if root % prime == 0 else top for root, top in below.items()}
            above = products(above, mirror)
            below = products(below, mirror)
    return above, below[1]


def bounds(parts, bits):
    """Two whole numbers between which the number stands, taken 2 to the power bits times."""
    low, high = 0, 0
    for root, top, bottom in parts:
        near = floor_root((top * top * root) << (2 * bits)) // bottom
        if top > 0:
            low += near
            high += near + 1
        else:
            low -= near + 1
            high -= near
    return low, high


def text_of(parts):
    """The text of the number of these parts."""
    if len(parts) == 0:
        return "0"
    text = "-" if parts[0][1] < 0 else ""
    for at, (root, top, bottom) in enumerate(parts):
        if at > 0:
            text += " - " if top < 0 else " + "
        text += text_of_part(root, abs(top), bottom)
    return text


def text_of_part(root, top, bottom):
    """The text of a fraction without sign times a root."""
    if root > 1 and top == 1 and bottom == 1:
        return "r" + figures(root)
    text = figures(top)
    if bottom > 1:
        text += "/" + figures(bottom)
    if root > 1:
        text += "*r" + figures(root)
    return text


def parts_in(text):
    """The list of the parts that a text tells, as they stand there; None where it tells none."""
    if text == "0":
        return []
    words = text.split(" ")
    signs = ["+"] + words[1::2]
    told = words[0::2]
    if told[0].startswith("-"):
        signs[0] = "-"
        told[0] = told[0][1:]
    if len(signs) != len(told):
        return None
    parts = []
    for mark, word in zip(signs, told):
        part = part_in(word)
        if part is None or mark not in ("+", "-"):
            return None
        root, top, bottom = part
        parts.append((root, -top if mark == "-" else top, bottom))
    return parts


def part_in(word):
    """(root, top, bottom) of a word like `5/7*r15`; None of another word."""
    fraction, mark, figures_of_root = word.partition("r")
    root = read_figures(figures_of_root) if mark == "r" else 1
    if mark == "r" and fraction == "":
        fraction = "1"
    elif mark == "r":
        # Whether the star stood there is seen when the number is written again.
        fraction = fraction[:-1]
    top_figures, slash, bottom_figures = fraction.partition("/")
    top = read_figures(top_figures)
    bottom = read_figures(bottom_figures) if slash == "/" else 1
    if root is None or top is None or bottom is None:
        return None
    return root, top, bottom


def are_parts(parts):
    """Whether these are the parts of an exact number: roots rising and without squares, fractions in lowest terms."""
    before = 0
    for root, top, bottom in parts:
        if root <= before or bottom == 0 or top == 0 or in_lowest(top, bottom) != (top, bottom):
            return False
        if squares_out(root) != (1, root, 1):
            return False
        before = root
    return True
