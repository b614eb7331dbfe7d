"""Many sizes joined from the left: how many labels come to a size, and which."""

from turncouple.errors import NoPlace, NoRow, NoSize, TooWide
from turncouple.whole import is_whole

MOST_OF_ROW = 10
HIGHEST_OF_ROW = 12
HIGHEST_END = 120
MOST_LABELS = 2000


def counted(row, *, to):
    """How many labels of a row of sizes come to a size."""
    need_row(row, to)
    return ways_to(row, to)[0].get(row[0], 0)


def counted_by_offsets(row, *, to):
    """The same number as counted tells, by how often offsets add up."""
    need_row(row, to)
    counts = {0: 1}
    for size in row:
        found = {}
        for total, count in counts.items():
            for offset in range(-size, size + 1, 2):
                found[total + offset] = found.get(total + offset, 0) + count
        counts = found
    return counts.get(to, 0) - counts.get(to + 2, 0)


def labels(row, *, to):
    """The rising list of the labels that come to a size."""
    need_row(row, to)
    ways = ways_to(row, to)
    if ways[0].get(row[0], 0) > MOST_LABELS:
        raise TooWide("more than 2,000 labels")
    if row[0] not in ways[0]:
        return []
    found = [()]
    for at, size in enumerate(row[1:], start=1):
        found = [
            (*label, end) for label in found for end in ends_of(label[-1] if label else row[0], size) if end in ways[at]
        ]
    return found


def label_at(row, place, *, to):
    """The label at a place in the list of all."""
    need_row(row, to)
    ways = ways_to(row, to)
    if not is_whole(place) or not 0 <= place < ways[0].get(row[0], 0):
        raise NoPlace("no place in the list of labels")
    label, far = [], row[0]
    for at, size in enumerate(row[1:], start=1):
        for end in ends_of(far, size):
            count = ways[at].get(end, 0)
            if place < count:
                break
            place -= count
        far = end
        label.append(far)
    return tuple(label)


def place_of(row, label, *, to):
    """The place of a label in the list of all."""
    need_row(row, to)
    ways = ways_to(row, to)
    if row[0] not in ways[0] or not isinstance(label, tuple) or len(label) != len(row) - 1:
        raise NoPlace("no label of this row to this size")
    place, far = 0, row[0]
    for at, size in enumerate(row[1:], start=1):
        chosen = label[at - 1]
        ends = ends_of(far, size)
        if not is_whole(chosen) or chosen not in ends or chosen not in ways[at]:
            raise NoPlace("no label of this row to this size")
        place += sum([ways[at].get(end, 0) for end in ends if end < chosen])
        far = chosen
    return place


def need_row(row, to):
    """Refuse what is no row of sizes, then what is no size to which it may come."""
    if not isinstance(row, list) or not 1 <= len(row) <= MOST_OF_ROW:
        raise NoRow("a row is a list of one to ten sizes")
    for size in row:
        if not is_whole(size) or not 0 <= size <= HIGHEST_OF_ROW:
            raise NoRow("the sizes of a row are whole numbers from 0 to 12")
    if not is_whole(to) or not 0 <= to <= HIGHEST_END:
        raise NoSize("what a row comes to is a whole number from 0 to 120")


def ends_of(one, other):
    """The rising list of what two sizes join to, however great."""
    return list(range(abs(one - other), one + other + 1, 2))


def ways_to(row, to):
    """For each place in a row a dict: from what is joined so far to how many ways lead on from there to the end.

    Sizes from which none leads there are left out.
    """
    ways = [{to: 1}]
    for size in row[:0:-1]:
        ahead = ways[-1]
        found = {}
        for end, count in ahead.items():
            # Two sizes join to a third where the third and one of them join to the other.
            for far in ends_of(end, size):
                found[far] = found.get(far, 0) + count
        ways.append(found)
    return ways[::-1]
