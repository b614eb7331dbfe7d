"""Trees of turns joined two by two: their standings, and how one tree stands in another."""

from turncouple.errors import NoOffset, NoStanding, NoTree, NoWay, TooWide
from turncouple.numbers import add_at, exact, plus, times, without_noughts
from turncouple.sixes import six_number
from turncouple.standings import MOST_PRODUCTS, MOST_TURNS, Standing, is_turn, products_of
from turncouple.turns import can_join, is_offset, is_size, joined_number, offsets, sizes_of
from turncouple.whole import are_unlike, is_name, sign_to

MOST_RECOUPLED = 500


def tree_of(labelled):
    """The tree of a labelled one."""
    need_labelled(labelled)
    return shape_of(labelled)


def plain_tree(tree):
    """The tree with the side of the least name left in each joint."""
    need_tree(tree)
    return plain_shape(tree)


def stands(labelled, *, offset):
    """The standing of a labelled tree at an offset."""
    turns = need_labelled(labelled)
    if not is_offset(offset, labelled[-1]):
        raise NoOffset("no offset of the tree's last size")
    if products_of(turns) > MOST_PRODUCTS:
        raise NoStanding("a standing has at most 128 products")
    return Standing(tuple(turns), numbers_of(labelled, offset, {}))


def recoupled(one, other):
    """The number by which one labelled tree stands in another of the same turns."""
    turns, others = need_labelled(one), need_labelled(other)
    if sorted(turns) != sorted(others):
        raise NoTree("trees of other turns")
    need_few_products(turns)
    if one[-1] != other[-1]:
        return exact(0)
    # At the highest offset there are the fewest products.
    numbers, known = numbers_of(one, one[-1], {}), numbers_of(other, one[-1], {})
    order = [turns.index(turn) for turn in others]
    total = exact(0)
    for places, number in numbers.items():
        total = plus(total, times(number, known.get(tuple([places[at] for at in order]), exact(0))))
    return total


def moves(tree):
    """The list of all plain trees that a move makes of one, rising by their texts."""
    need_tree(tree)
    return shapes_moved(plain_shape(tree))


def way(tree, other):
    """A list of plain trees from one to another, each by one move from the one ahead, as few as can be."""
    names, others = need_tree(tree), need_tree(other)
    if sorted(names) != sorted(others):
        raise NoTree("trees of other names")
    shape, end = plain_shape(tree), plain_shape(other)
    # Told from the end, so that each step leads nearer to it.
    far = depths_from(end, shape)
    found = [shape]
    while shape != end:
        shape = [near for near in shapes_moved(shape) if far.get(near, far[shape]) < far[shape]][0]
        found.append(shape)
    return found


def depths(tree):
    """A dict from all plain trees over the names of one to the fewest moves from it."""
    need_tree(tree)
    return depths_from(plain_shape(tree), None)


def led(labelled, steps):
    """For each tree of a way a dict: from its labelled trees to the number by which the first one stands in them."""
    turns = need_labelled(labelled)
    need_way(plain_shape(shape_of(labelled)), steps)
    need_few_products(turns)
    mark, plain = plain_labelled(labelled)
    numbers = {plain: exact(mark)}
    found = [numbers]
    known = {}
    for shape in steps[1:]:
        behind = {}
        for ahead, number in numbers.items():
            for reached, factor in moved_to(ahead, shape, known):
                add_at(behind, reached, times(number, factor))
        numbers = without_noughts(behind)
        found.append(numbers)
    return found


def turns_in(thing):
    """The list of the (name, size) of what is to be a labelled tree, in its order; None of what can be none."""
    if not isinstance(thing, tuple) or not 2 <= len(thing) <= 3:
        return None
    if len(thing) == 2:
        return [thing] if is_turn(thing) else None
    left, right, size = thing
    turns = turns_in(left)
    # The right side isn't looked at in vain, so that what is deep on both sides is soon refused.
    others = None if turns is None else turns_in(right)
    if others is None or len(turns) + len(others) > MOST_TURNS:
        return None
    if not is_size(size) or not can_join(left[-1], right[-1], size):
        return None
    return turns + others


def is_labelled(thing):
    """Whether it is a labelled tree."""
    turns = turns_in(thing)
    return turns is not None and are_unlike([name for name, size in turns])


def need_labelled(thing):
    """The list of the turns of a labelled tree; refuse what is none."""
    if not is_labelled(thing):
        raise NoTree("a labelled tree is a tuple (name, size) or (left, right, size)")
    return turns_in(thing)


def names_in(thing):
    """The list of the names of what is to be a tree, in its order; None of what can be none."""
    if is_name(thing):
        return [thing]
    if not isinstance(thing, tuple) or len(thing) != 2:
        return None
    names = names_in(thing[0])
    others = None if names is None else names_in(thing[1])
    if others is None or len(names) + len(others) > MOST_TURNS:
        return None
    return names + others


def need_tree(thing):
    """The list of the names of a tree; refuse what is none."""
    names = names_in(thing)
    if names is None or not are_unlike(names):
        raise NoTree("a tree is a name or a tuple of two trees, each name once")
    return names


def need_few_products(turns):
    """Refuse turns of too many products for sums over all."""
    if products_of(turns) > MOST_RECOUPLED:
        raise TooWide("more than 500 products of offsets")


def need_way(shape, steps):
    """Refuse what is no list of plain trees from one on, each by one move from the one ahead."""
    if not isinstance(steps, list) or len(steps) == 0 or steps[0] != shape:
        raise NoWay("a way is a list of plain trees, the first that of the labelled one")
    for ahead, behind in zip(steps, steps[1:]):
        if behind not in shapes_moved(ahead):
            raise NoWay("no move leads from one tree of the way to the next")


def shape_of(labelled):
    """The tree of what is known to be a labelled one."""
    if len(labelled) == 2:
        return labelled[0]
    return shape_of(labelled[0]), shape_of(labelled[1])


def least_name(shape):
    """The least name in a plain tree, which stands leftmost."""
    while not isinstance(shape, str):
        shape = shape[0]
    return shape


def plain_joint(one, other):
    """The plain tree of two plain trees joined."""
    return (one, other) if least_name(one) < least_name(other) else (other, one)


def plain_shape(tree):
    """The plain tree of what is known to be a tree."""
    if isinstance(tree, str):
        return tree
    return plain_joint(plain_shape(tree[0]), plain_shape(tree[1]))


def shapes_moved(shape):
    """The list of all plain trees that a move makes of a plain tree, rising by their texts."""
    if isinstance(shape, str):
        return []
    left, right = shape
    # A move within one side leaves its least name where it is.
    found = [(moved, right) for moved in shapes_moved(left)] + [(left, moved) for moved in shapes_moved(right)]
    for pair, third in ((left, right), (right, left)):
        if not isinstance(pair, str):
            one, other = pair
            found.append(plain_joint(plain_joint(one, third), other))
            found.append(plain_joint(plain_joint(other, third), one))
    return sorted(found, key=str)


def depths_from(shape, end):
    """A dict from plain trees to the fewest moves from one; of no more trees than needed to come to the end."""
    found = {shape: 0}
    edge = [shape]
    while edge and end not in found:
        reached = []
        for ahead in edge:
            for behind in shapes_moved(ahead):
                if behind not in found:
                    found[behind] = found[ahead] + 1
                    reached.append(behind)
        edge = reached
    return found


def numbers_of(labelled, offset, known):
    """A dict from tuples of offsets to the numbers of a labelled tree at an offset; known keeps joined numbers."""
    if len(labelled) == 2:
        return {(offset,): exact(1)}
    left, right, size = labelled
    found = {}
    for u in offsets(left[-1]):
        v = offset - u
        if is_offset(v, right[-1]):
            factor = joined_known((left[-1], u), (right[-1], v), (size, offset), known)
            if factor.parts != ():
                others = numbers_of(right, v, known)
                for places, number in numbers_of(left, u, known).items():
                    ahead = times(number, factor)
                    for behind, other in others.items():
                        found[places + behind] = times(ahead, other)
    return found


def joined_known(one, other, to, known):
    """The number of joined of three pairs; known keeps those found so far."""
    key = (one, other, to)
    if key not in known:
        known[key] = joined_number(one, other, to)
    return known[key]


def side_mark(one, other, size):
    """The sign with which two sizes that are joined to a third are exchanged."""
    return sign_to((one + other - size) // 2)


def plain_labelled(labelled):
    """(sign, labelled tree) of a labelled tree made plain."""
    if len(labelled) == 2:
        return 1, labelled
    left, right, size = labelled
    mark, one = plain_labelled(left)
    sign, other = plain_labelled(right)
    if plain_joint(shape_of(one), shape_of(other))[0] == shape_of(one):
        return mark * sign, (one, other, size)
    return mark * sign * side_mark(left[-1], right[-1], size), (other, one, size)


def moved_to(labelled, shape, known):
    """The list of (labelled tree, number) of a tree that one move leads to, all that a labelled one stands in."""
    left, right, size = labelled
    if shape_of(left) == shape[0]:
        return [((left, behind, size), number) for behind, number in moved_to(right, shape[1], known)]
    if shape_of(right) == shape[1]:
        return [((behind, right, size), number) for behind, number in moved_to(left, shape[0], known)]
    x, y, p, z, mark = three_moved(labelled, shape)
    found = []
    for q in sizes_of(y[-1], z[-1]):
        if can_join(x[-1], q, size):
            key = (x[-1], y[-1], p, z[-1], size, q)
            if key not in known:
                known[key] = recoupling(*key)
            sign, behind = joined_again(x, (y, z, q), size)
            found.append((behind, times(known[key], exact(mark * sign))))
    return found


def three_moved(labelled, shape):
    """x, y, p, z, sign: a labelled tree is ((x, y) to p, z), but for the sign of sides, its move makes (x, (y, z))."""
    left, right, size = labelled
    for pair, z, sign in ((left, right, 1), (right, left, side_mark(left[-1], right[-1], size))):
        if len(pair) == 3:
            one, other, p = pair
            for x, y, mark in ((one, other, 1), (other, one, side_mark(one[-1], other[-1], p))):
                behind = plain_joint(shape_of(y), shape_of(z))
                if plain_joint(shape_of(x), behind) == shape:
                    return x, y, p, z, sign * mark
    return None


def joined_again(x, pair, size):
    """(sign, labelled tree), made plain, of a plain tree joined with what is joined of two plain ones."""
    y, z, q = pair
    mark = 1
    if plain_joint(shape_of(y), shape_of(z))[0] != shape_of(y):
        mark = side_mark(y[-1], z[-1], q)
        pair = (z, y, q)
    if plain_joint(shape_of(x), shape_of(pair))[0] == shape_of(x):
        return mark, (x, pair, size)
    return mark * side_mark(x[-1], q, size), (pair, x, size)


def recoupling(x, y, p, z, size, q):
    """The number by which sizes joined as ((x, y) to p, z) stand in those joined as (x, (y, z) to q)."""
    mark = sign_to((x + y + z + size) // 2)
    return times(six_number((x, y, p, z, size, q)), exact(mark, root=(p + 1) * (q + 1)))
