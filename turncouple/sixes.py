"""Sixes and nines: the coupling numbers of six and of nine sizes, by several sums, and why one is 0."""

from turncouple.errors import NoTable, NoTriple, TooWide
from turncouple.numbers import exact, plus, root_of_factorials, sign, times
from turncouple.threes import three_number
from turncouple.turns import can_join, is_offset, need_sizes, offsets, sizes_of
from turncouple.whole import factorials, is_odd

HIGHEST_OF_SIX_BY_THREES = 6
HIGHEST_OF_NINE = 20
HIGHEST_OF_NINE_BY_THREES = 2
# Two rows of a nine, or two columns, by their places among all rows, then all columns.
PAIRS_OF_LINES = ((0, 1), (0, 2), (1, 2), (3, 4), (3, 5), (4, 5))


def six(a, b, c, d, e, f):
    """The number of six sizes."""
    sizes = (a, b, c, d, e, f)
    need_sizes(sizes)
    return six_number(sizes)


def six_by_threes(a, b, c, d, e, f):
    """The same number as six tells, by the sum over all offsets."""
    need_sizes([a, b, c, d, e, f])
    if max(a, b, c, d, e, f) > HIGHEST_OF_SIX_BY_THREES:
        raise TooWide("a six is told by threes of sizes to 6")
    known = {}
    total = exact(0)
    for u in offsets(a):
        for v in offsets(b):
            for x in offsets(d):
                # All others follow, as the offsets of each three add up to 0.
                w, y, z = -u - v, u + v + x, v + x
                if is_offset(w, c) and is_offset(y, e) and is_offset(z, f):
                    product = product_of_threes([
                        ((a, -u), (b, -v), (c, -w)), ((a, u), (e, -y), (f, z)),
                        ((d, x), (b, v), (f, -z)), ((d, -x), (e, y), (c, w)),
                    ], known)
                    odd = is_odd((a + b + c + d + e + f - u - v - w - x - y - z) // 2)
                    total = plus(total, times(product, exact(-1 if odd else 1)))
    return total


def forms_of(a, b, c, d, e, f):
    """The sums of a six: rising those of its triangles, rising those of its opposite pairs, all halved."""
    sizes = (a, b, c, d, e, f)
    need_sizes(sizes)
    if first_not_joined(triangles_of(sizes)) is not None:
        raise NoTriple("a triangle that may not be joined")
    return form_of(sizes)


def alike_sixes(sizes, others):
    """Whether two tuples of six sizes have one form."""
    form = form_of_tuple(sizes)
    return form == form_of_tuple(others)


def why_six(a, b, c, d, e, f):
    """Why a six is 0, or ("not", sign)."""
    sizes = (a, b, c, d, e, f)
    need_sizes(sizes)
    place = first_not_joined(triangles_of(sizes))
    if place is not None:
        return "triangle", place
    terms = terms_of_six(sizes)
    if sum(terms) == 0:
        return "met", [(term, 1) for term in terms]
    return "not", sign(six_number(sizes))


def nine(rows):
    """The number of three rows of three sizes."""
    need_rows(rows, HIGHEST_OF_NINE)
    return nine_number(rows)


def nine_by_threes(rows):
    """The same number as nine tells, by the sum over all offsets."""
    need_rows(rows, HIGHEST_OF_NINE_BY_THREES)
    (a, b, c), (d, e, f), (g, h, i) = rows
    known = {}
    total = exact(0)
    for u in offsets(a):
        for v in offsets(b):
            for x in offsets(d):
                for y in offsets(e):
                    # All others follow, as the offsets of each row and each column add up to 0.
                    pairs = (((a, u), (b, v), (c, -u - v)), ((d, x), (e, y), (f, -x - y)),
                             ((g, -u - x), (h, -v - y), (i, u + v + x + y)))
                    if all([is_offset(offset, size) for row in pairs for size, offset in row]):
                        total = plus(total, product_of_threes(lines_of(pairs), known))
    return total


def why_nine(rows):
    """Why a nine is 0, or ("not", sign)."""
    need_rows(rows, HIGHEST_OF_NINE)
    lines = lines_of(rows)
    place = first_not_joined(lines)
    if place is not None:
        return "triangle", place
    if is_odd(sum([sum(row) for row in rows]) // 2):
        for i, j in PAIRS_OF_LINES:
            if lines[i] == lines[j]:
                return "signs", i, j
    found = sign(nine_number(rows))
    return ("met",) if found == 0 else ("not", found)


def triangles_of(sizes):
    """The four triples of a six that are to be joined."""
    a, b, c, d, e, f = sizes
    return (a, b, c), (a, e, f), (d, b, f), (d, e, c)


def first_not_joined(triples):
    """The place of the first triple of sizes that may not be joined; None where all may."""
    for at, (one, other, third) in enumerate(triples):
        if not can_join(one, other, third):
            return at
    return None


def form_of(sizes):
    """The form of six sizes whose triangles may be joined."""
    a, b, c, d, e, f = sizes
    triangles = [sum(triangle) // 2 for triangle in triangles_of(sizes)]
    opposites = [(a + b + d + e) // 2, (b + c + e + f) // 2, (c + a + f + d) // 2]
    return tuple(sorted(triangles)), tuple(sorted(opposites))


def form_of_tuple(sizes):
    """The form of what is to be a tuple of six sizes."""
    if not isinstance(sizes, tuple) or len(sizes) != 6:
        raise NoTriple("a six is told as a tuple of six sizes")
    return forms_of(*sizes)


def six_number(sizes):
    """The number of six, of what is known to be six sizes."""
    triangles = triangles_of(sizes)
    if first_not_joined(triangles) is not None:
        return exact(0)
    above, below = [], []
    for x, y, z in triangles:
        above.extend([(x + y - z) // 2, (x - y + z) // 2, (y + z - x) // 2])
        below.append((x + y + z) // 2 + 1)
    return times(root_of_factorials(above, below), exact(sum(terms_of_six(sizes))))


def terms_of_six(sizes):
    """The terms of the sum in a six whose triangles may be joined, k by k; all of them are whole."""
    triangles, opposites = form_of(sizes)
    known = factorials(min(opposites) + 1)
    terms = []
    for k in range(max(triangles), min(opposites) + 1):
        bottom = 1
        for number in triangles:
            bottom *= known[k - number]
        for number in opposites:
            bottom *= known[number - k]
        # What stands with `!` below adds up to k, so k! is divided without rest, and no number there is above k.
        term = known[k + 1] // bottom
        terms.append(-term if is_odd(k) else term)
    return terms


def product_of_threes(triples, known):
    """The product of the threes of all triples; known keeps those found so far."""
    product = exact(1)
    for triple in triples:
        if triple not in known:
            known[triple] = three_number(*triple)
        product = times(product, known[triple])
    return product


def need_rows(rows, highest):
    """Refuse what is no tuple of three tuples of three sizes, then sizes above the highest."""
    if not isinstance(rows, tuple) or len(rows) != 3:
        raise NoTable("a nine is told as a tuple of three rows")
    for row in rows:
        if not isinstance(row, tuple) or len(row) != 3:
            raise NoTable("a row of a nine is a tuple of three sizes")
    for row in rows:
        need_sizes(row)
    if max([max(row) for row in rows]) > highest:
        raise TooWide("a size above those that this sum takes")


def lines_of(rows):
    """The list of all rows, then all columns."""
    columns = list(zip(*rows))
    return [*rows, *columns]


def nine_number(rows):
    """The number of nine, of what is known to be three rows of sizes to 20."""
    (a, b, c), (d, e, f), (g, h, i) = rows
    if first_not_joined(lines_of(rows)) is not None:
        return exact(0)
    total = exact(0)
    # Of all other sizes the first six is 0.
    for x in sizes_of(a, i):
        sixes = times(six_number((a, d, g, h, i, x)), six_number((b, e, h, d, x, f)))
        product = times(sixes, six_number((c, f, i, x, a, b)))
        total = plus(total, times(product, exact(-x - 1 if is_odd(x) else x + 1)))
    return total
