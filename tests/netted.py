"""What the tests of nets share: drawn nets, the plain sum over all offsets, and what is no net."""

from itertools import product

from tests.plain import NOT_WHOLE
from tests.stood import NOT_NAMES, OTHER_THINGS
from tests.told import joins, together, total
from turncouple.numbers import exact
from turncouple.threes import three


def drawn_net(luck, many, highest, names="abcdefghi", fit=True):
    """A net of so many points, its lines and points in whatever order; its points may be joined where they shall fit."""
    names = names[:many * 3 // 2]
    while True:
        stood = list(names) * 2
        luck.shuffle(stood)
        points = tuple(tuple(stood[at:at + 3]) for at in range(0, len(stood), 3))
        if all(len(set(point)) == 3 for point in points):
            break
    sizes = {name: luck.randint(0, highest) for name in names}
    while fit and not all(joins(*[sizes[name] for name in point]) for point in points):
        sizes = {name: luck.randint(0, highest) for name in names}
    lines = list(sizes.items())
    luck.shuffle(lines)
    return tuple(lines), points


def plain_worth(net):
    """The told sum, over all offsets of all lines, none left out but where a three is 0 for them."""
    lines, points = net
    begins = {name: min(at for at, point in enumerate(points) if name in point) for name, size in lines}
    found = []
    for offsets in product(*[range(-size, size + 1, 2) for name, size in lines]):
        stand = {name: (size, offset) for (name, size), offset in zip(lines, offsets)}
        threes = []
        for at, point in enumerate(points):
            pairs = [stand[name] for name in point]
            threes.append([(size, m if begins[name] == at else -m) for name, (size, m) in zip(point, pairs)])
        if all(sum(offset for size, offset in pairs) == 0 for pairs in threes):
            signs = [(-1) ** ((size - m) // 2) for size, m in stand.values()]
            found.append(together(*signs, *[three(*pairs) for pairs in threes]))
    return total(found)


def all_wrong_nets():
    """Things that are no net, each for one reason."""
    lines = (("a", 2), ("b", 2), ("c", 2))
    point = ("a", "b", "c")
    points = (point, point)
    yield from [thing for thing in OTHER_THINGS]
    yield from [lines, points, (lines,), (lines, points, ()), [lines, points], (list(lines), points),
                (lines, list(points)), (dict(lines), points), ("abc", points), (lines, "abc"), (None, None),
                ((), None), (None, ()), ((), []), ([], ()), ((), {}), (lines, ()), ((), points), (lines, (point,)),
                (lines, (point, point, point)), ((("a", 2),), ()), ((), (point,)), (lines[:2], points)]
    # A name twice, in the lines and at a point.
    yield (*lines, ("a", 2)), points
    yield (*lines, ("a", 3)), points
    yield lines, (point, ("a", "a", "b"))
    yield lines, (("a", "a", "b"), ("b", "c", "c"))
    # A line at one point, at three, at a point twice; a name that is no line.
    yield (*lines, ("d", 2)), (point, ("a", "b", "d"))
    yield (*lines, ("d", 2)), points
    yield (("a", 1), ("b", 1), ("c", 1), ("d", 1)), (("a", "b", "c"), ("a", "b", "d"), ("a", "c", "d"))
    yield lines, (point, ("a", "b", "d"))
    # Points of one, two, four names, each line at two of them.
    for names in ("a", "ab", "abcd"):
        yield tuple((name, 2) for name in names), (tuple(names), tuple(names))
    # Too many of both.
    six_points = [("a", "b", "c")] * 2 + [("d", "e", "f")] * 2 + [("g", "h", "i")] * 2
    nine_lines = [(name, 0) for name in "abcdefghi"]
    yield (*nine_lines, ("j", 0)), tuple(six_points)
    yield (*nine_lines, ("j", 0), ("k", 0), ("l", 0)), (*six_points, ("j", "k", "l"), ("j", "k", "l"))
    yield tuple(nine_lines), (*six_points, ("a", "b", "c"))
    yield tuple(nine_lines), (*six_points[:-1], ("g", "h", "a"))
    for wrong in [*NOT_WHOLE, -1, 5, 6, 40, 10 ** 2999]:
        yield (("a", wrong), *lines[1:]), points
        yield (*lines[:2], ("c", wrong)), points
    for wrong in NOT_NAMES:
        yield ((wrong, 2), *lines[1:]), ((wrong, "b", "c"), (wrong, "b", "c"))
        yield lines, (point, (wrong, "b", "c"))
    for wrong in [["a", 2], ("a",), ("a", 2, 2), "a2", {"a": 2}, None, True, 2, "a", ()]:
        yield (wrong, *lines[1:]), points
    for wrong in [["a", "b", "c"], "abc", ("a", "b"), ("a", "b", "c", "d"), {"a": 1, "b": 1, "c": 1}, None, True, 3, ()]:
        yield lines, (point, wrong)
        yield lines, (wrong, point)
