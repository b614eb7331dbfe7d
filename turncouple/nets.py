"""Nets of threes: what they come to, and the steps that make them lesser ones."""

from turncouple.errors import NoNet
from turncouple.numbers import Exact, add_at, exact, times
from turncouple.sixes import six_number
from turncouple.threes import three_number
from turncouple.turns import can_join, is_offset, is_size, offsets
from turncouple.whole import are_unlike, is_name, is_odd, is_whole, sign_to

MOST_LINES = 9
MOST_POINTS = 6
HIGHEST_OF_LINE = 4
# The net without lines and points.
BARE = ((), ())
# The steps in the order in which a reduction looks for them.
STEPS = ("three", "pair", "corner")


def worth(net):
    """The sum, over an offset of each line, of the products of signs and threes."""
    need_net(net)
    left = list(range(len(net[1])))
    # Of the lines with one point behind and one ahead, sums stand by their offsets: all other offsets are summed over.
    begun, sums = [], {(): exact(1)}
    while left:
        at = next_point(net, left, begun)
        left = [place for place in left if place != at]
        point = net[1][at]
        sums = sums_behind(sums, begun, point, numbers_at(net, at, begun))
        begun = [name for name in begun if name not in point] + [name for name in point if name not in begun]
    return sums.get((), exact(0))


def reduced(net):
    """The list of (step, factor, net behind), at each net the first step that is there."""
    need_net(net)
    found = []
    step = first_step(net)
    while step is not None:
        factor, net = step_done(net, step)
        found.append((step, factor, net))
        step = first_step(net)
    return found


def is_reduction(net, steps):
    """Whether each of a list of (step, factor, net behind) is right, one behind the other."""
    need_net(net)
    if not isinstance(steps, list):
        return False
    for row in steps:
        if not is_row_of(net, row):
            return False
        net = row[2]
    return True


def can_be(net):
    """The rising list of all steps that are there."""
    need_net(net)
    return steps_of(net)


def need_net(thing):
    """Refuse what is no net."""
    if not is_net(thing):
        raise NoNet("a net is a tuple (lines, points), each line at just two points")


def is_net(thing):
    """Whether it is a net."""
    if not isinstance(thing, tuple) or len(thing) != 2:
        return False
    lines, points = thing
    if not isinstance(lines, tuple) or not isinstance(points, tuple):
        return False
    if len(lines) > MOST_LINES or len(points) > MOST_POINTS or not all([is_line(line) for line in lines]):
        return False
    names = [name for name, size in lines]
    if not are_unlike(names) or not all([is_point(point, names) for point in points]):
        return False
    stood = [name for point in points for name in point]
    return all([stood.count(name) == 2 for name in names])


def is_line(thing):
    """Whether it is a tuple (name, size) of a line."""
    if not isinstance(thing, tuple) or len(thing) != 2:
        return False
    return is_name(thing[0]) and is_size(thing[1]) and thing[1] <= HIGHEST_OF_LINE


def is_point(thing, names):
    """Whether it is a tuple of three unlike ones of the names."""
    if not isinstance(thing, tuple) or len(thing) != 3:
        return False
    return all([name in names for name in thing]) and are_unlike(thing)


def sizes_by_name(net):
    """A dict from the names of the lines to their sizes."""
    return {name: size for name, size in net[0]}


def next_point(net, left, begun):
    """Of the places that are left that of a point with the most lines begun, so that few lines are begun at a time."""
    return max(left, key=lambda place: len([name for name in net[1][place] if name in begun]))


def numbers_at(net, at, begun):
    """By the offsets of the begun lines of a point: the list of (offsets of its other lines, number), without 0.

    The number is the three of the point, with the signs of its other lines.
    """
    sizes = sizes_by_name(net)
    point = net[1][at]
    a, b, c = [sizes[name] for name in point]
    ends = [further(net, name, at) < at for name in point]
    found = {}
    for u in offsets(a):
        for v in offsets(b):
            if is_offset(-u - v, c):
                number = three_number((a, u), (b, v), (c, -u - v))
                if number.parts != ():
                    here = [-offset if ended else offset for offset, ended in zip((u, v, -u - v), ends)]
                    known = tuple([offset for name, offset in zip(point, here) if name in begun])
                    fresh = [(sizes[name], offset) for name, offset in zip(point, here) if name not in begun]
                    mark = sign_to(sum([(size - offset) // 2 for size, offset in fresh]))
                    row = (tuple([offset for size, offset in fresh]), times(number, exact(mark)))
                    found.setdefault(known, []).append(row)
    return found


def sums_behind(sums, begun, point, numbers):
    """The sums by the offsets of begun lines, with one point more, told by its numbers."""
    met = [begun.index(name) for name in point if name in begun]
    stay = [place for place, name in enumerate(begun) if name not in point]
    found = {}
    for places, total in sums.items():
        known = tuple([places[place] for place in met])
        kept = tuple([places[place] for place in stay])
        for fresh, number in numbers.get(known, []):
            add_at(found, kept + fresh, times(total, number))
    return found


def further(net, name, at):
    """The place of the other point of a line that stands at one."""
    places = [place for place, point in enumerate(net[1]) if name in point and place != at]
    return places[0]


def in_both(net, i, j):
    """The list of the lines that two points share, in the order of the first."""
    return [name for name in net[1][i] if name in net[1][j]]


def other_of(net, at, names):
    """The line of a point that isn't one of two names."""
    others = [name for name in net[1][at] if name not in names]
    return others[0]


def steps_of(net):
    """The rising list of all steps that are there."""
    many = len(net[1])
    found = []
    for i in range(many):
        for j in range(i + 1, many):
            common = in_both(net, i, j)
            if len(common) == 3:
                found.append(("three", i, j))
            if len(common) == 2 and is_pair(net, i, j, common):
                found.append(("pair", i, j))
            for k in range(j + 1, many):
                if len(common) == len(in_both(net, j, k)) == len(in_both(net, k, i)) == 1:
                    found.append(("corner", i, j, k))
    return sorted(found)


def is_pair(net, i, j, common):
    """Whether the two further lines of points that share two don't stand at one further point."""
    a, b = other_of(net, i, common), other_of(net, j, common)
    return further(net, a, i) != further(net, b, j)


def first_step(net):
    """The step that a reduction takes; None where none is there."""
    steps = steps_of(net)
    for word in STEPS:
        fitting = [step for step in steps if step[0] == word]
        if fitting:
            return fitting[0]
    return None


def is_row_of(net, row):
    """Whether it is (step, factor, net behind) of a step that is there."""
    if not isinstance(row, tuple) or len(row) != 3:
        return False
    step, factor, behind = row
    if not isinstance(step, tuple) or not all([is_whole(place) for place in step[1:]]):
        return False
    # Truths would pass for the sizes 0 and 1 of a net that is but compared.
    if not isinstance(factor, Exact) or not is_net(behind):
        return False
    return step in steps_of(net) and step_done(net, step) == (factor, behind)


def step_done(net, step):
    """(factor, net behind) of a step that is there."""
    word, *places = step
    if word == "three":
        return three_done(net, *places)
    if word == "pair":
        return pair_done(net, *places)
    return corner_done(net, *places)


def three_done(net, i, j):
    """What the step "three" makes of a net."""
    sizes = sizes_by_name(net)
    order = net[1][j]
    behind = left_over(net, order, [i, j], net[1])
    a, b, c = sizes_of_names(sizes, order)
    if not can_join(a, b, c):
        return exact(0), behind
    return exact(order_mark(sizes, net[1][i], order)), behind


def pair_done(net, i, j):
    """What the step "pair" makes of a net."""
    sizes = sizes_by_name(net)
    d, e = in_both(net, i, j)
    a, b = other_of(net, i, [d, e]), other_of(net, j, [d, e])
    if sizes[a] != sizes[b]:
        return exact(0), BARE
    p, q = further(net, a, i), further(net, b, j)
    points = [tuple([a if name == b else name for name in point]) for point in net[1]]
    behind = left_over(net, [b, d, e], [i, j], points)
    if not can_join(sizes[a], sizes[d], sizes[e]):
        return exact(0), behind
    mark = sign_to((sizes[d] + sizes[e] + sizes[a]) // 2)
    mark *= order_mark(sizes, net[1][i], (d, e, a)) * order_mark(sizes, net[1][j], (e, d, b))
    # a is to begin at i, b to end at j, the new line to begin where b began.
    for turned in (p < i, q > j, p < q):
        if turned and is_odd(sizes[a]):
            mark = -mark
    return exact(mark, bottom=sizes[a] + 1), behind


def corner_done(net, i, j, k):
    """What the step "corner" makes of a net."""
    sizes = sizes_by_name(net)
    f, d, e = in_both(net, i, j)[0], in_both(net, j, k)[0], in_both(net, k, i)[0]
    a, b, c = other_of(net, i, [e, f]), other_of(net, j, [d, f]), other_of(net, k, [d, e])
    points = [(a, b, c) if at == i else point for at, point in enumerate(net[1])]
    behind = left_over(net, [d, e, f], [j, k], points)
    # The line e is to begin at k, but i comes first.
    mark = sign_to(sizes[e])
    for at, order in ((i, (a, e, f)), (j, (d, b, f)), (k, (d, e, c))):
        mark *= order_mark(sizes, net[1][at], order)
    for name, at in ((b, j), (c, k)):
        # What stood between i and the point that goes away comes behind the new point, so the line is turned about.
        if i < further(net, name, at) < at:
            mark *= sign_to(sizes[name])
    number = six_number(sizes_of_names(sizes, (a, b, c, d, e, f)))
    return times(number, exact(mark)), behind


def sizes_of_names(sizes, names):
    """The tuple of the sizes of some names."""
    return tuple([sizes[name] for name in names])


def order_mark(sizes, point, order):
    """The sign with which the order of a point is made another one, where its sizes may be joined."""
    in_place = [name for name, other in zip(point, order) if name == other]
    # Just one stays in its place where two are exchanged; all or none where the order is even.
    if len(in_place) == 1:
        return sign_to(sum(sizes_of_names(sizes, order)) // 2)
    return 1


def left_over(net, names, places, points):
    """The net of the lines but those of some names, and of the points but those at some places."""
    lines = tuple([(name, size) for name, size in net[0] if name not in names])
    return lines, tuple([point for at, point in enumerate(points) if at not in places])
