"""Linkings of one size by another, resolved in tensors."""

from turncouple.errors import NoLinking, NoSize
from turncouple.numbers import Exact, add_at, exact, plus, times, without_noughts
from turncouple.turns import can_join, is_offset, is_size, joined_number, offsets, sizes_of

HIGHEST_OF_LINKING = 8


def resolved(linking, *, by, to):
    """The rising list of (k, q, number), without 0, of which a linking is made."""
    need_linking(linking, by, to)
    found = []
    for k in sizes_of(by, to):
        for q in offsets(k):
            number = tensor_in(linking, (k, q), by, to)
            if number.parts != ():
                found.append((k, q, number))
    return found


def linked(tensors, *, by, to):
    """The linking that is made of a list of (k, q, number)."""
    need_linked_sizes(by, to)
    need_tensors(tensors, by, to)
    found = {}
    for k, q, number in tensors:
        for w, v in places_of(q, by, to):
            add_at(found, (w, v), times(number, joined_number((by, v), (k, q), (to, w))))
    return without_noughts(found)


def rank_of(linking, *, by, to):
    """The k of a linking that is made of one k alone; None of others."""
    ranks = [k for k, q, number in resolved(linking, by=by, to=to)]
    if len(set(ranks)) == 1:
        return ranks[0]
    return None


def need_linked_sizes(by, to):
    """Refuse what are no sizes of a linking."""
    for size in (by, to):
        if not is_size(size) or size > HIGHEST_OF_LINKING:
            raise NoSize("the sizes of a linking are whole numbers from 0 to 8")


def need_linking(thing, by, to):
    """Refuse what are no sizes of a linking, then what is no linking of these."""
    need_linked_sizes(by, to)
    if not isinstance(thing, dict):
        raise NoLinking("a linking is a dict from pairs of offsets to exact numbers")
    for pair, number in thing.items():
        if not isinstance(pair, tuple) or len(pair) != 2 or not isinstance(number, Exact):
            raise NoLinking("a linking leads from pairs of offsets to exact numbers")
        if not is_offset(pair[0], to) or not is_offset(pair[1], by):
            raise NoLinking("a pair has an offset of what is linked, then one of what it is linked by")


def need_tensors(thing, by, to):
    """Refuse what is no list of (k, q, number) with unlike k, q, each k one that may be joined with both sizes."""
    if not isinstance(thing, list):
        raise NoLinking("tensors are told as a list")
    told = {}
    for row in thing:
        if not isinstance(row, tuple) or len(row) != 3:
            raise NoLinking("a tensor is told as a tuple (k, q, number)")
        k, q, number = row
        if not is_size(k) or not can_join(by, to, k) or not is_offset(q, k) or not isinstance(number, Exact):
            raise NoLinking("a tensor has a size that may be joined with both, its offset and an exact number")
        if (k, q) in told:
            raise NoLinking("a tensor is told once")
        told[(k, q)] = True


def places_of(q, by, to):
    """The list of all (w, v), an offset of each of both sizes, with w being v and q."""
    return [(v + q, v) for v in offsets(by) if is_offset(v + q, to)]


def tensor_in(linking, pair, by, to):
    """The number with which a tensor, told by its pair (k, q), stands in a linking."""
    k, q = pair
    total = exact(0)
    for w, v in places_of(q, by, to):
        if (w, v) in linking:
            total = plus(total, times(linking[(w, v)], joined_number((by, v), pair, (to, w))))
    # The joined numbers of one tensor are orthogonal to those of each other, their squares come to (to + 1) / (k + 1).
    return times(total, exact(k + 1, bottom=to + 1))
