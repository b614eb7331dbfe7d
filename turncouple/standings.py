"""Standings of several turns: exact numbers at tuples of their offsets."""

from turncouple.errors import NoName, NoOffset, NoStanding
from turncouple.numbers import Exact, exact, need_exact, over, plus, sign, times, without_noughts
from turncouple.turns import is_offset, is_size
from turncouple.whole import are_unlike, is_name

MOST_TURNS = 6
HIGHEST_OF_TURN = 8
MOST_PRODUCTS = 128


class Standing:
    """A standing: its turns, tuples (name, size), in order, and its numbers by tuples of offsets, one of each turn."""

    def __init__(self, turns, numbers):
        if not are_turns(turns) or not is_table(turns, numbers):
            raise NoStanding("a standing is made of one to six turns and a dict from their offsets to exact numbers")
        self.order = turns
        # The numbers that aren't 0, by rising offsets.
        self.known = without_noughts({places: numbers[places] for places in sorted(list(numbers))})

    def __eq__(self, other):
        return isinstance(other, Standing) and self.order == other.order and self.known == other.known

    def turns(self):
        """The tuple of all (name, size)."""
        return self.order

    def at(self, offsets):
        """The number at a tuple of offsets."""
        if not are_places(self.order, offsets):
            raise NoOffset("a standing has its numbers at tuples of offsets, one of each turn")
        return self.known.get(offsets, exact(0))

    def numbers(self):
        """A dict of all numbers that aren't 0."""
        return {places: number for places, number in self.known.items()}


def held(one, other):
    """The sum of the products of the numbers of two standings of the same turns."""
    need_same_turns(one, other)
    total = exact(0)
    for places, number in one.known.items():
        if places in other.known:
            total = plus(total, times(number, other.known[places]))
    return total


def beside(one, other):
    """The standing of the turns of both, whose numbers are the products of both."""
    need_standing(one)
    need_standing(other)
    turns = one.order + other.order
    # Ahead of the products, which may be far too many.
    if not are_turns(turns):
        raise NoStanding("a name in both, or too many turns or products")
    return Standing(turns, numbers_beside(one.known, other.known))


def added(one, other):
    """The sum of two standings of the same turns."""
    need_same_turns(one, other)
    found = one.numbers()
    for places, number in other.known.items():
        found[places] = plus(number, one.at(places))
    return Standing(one.order, found)


def scaled(one, number):
    """A standing taken so many times as an exact number tells."""
    need_standing(one)
    need_exact(number)
    return Standing(one.order, {places: times(own, number) for places, own in one.known.items()})


def is_along(one, other):
    """Whether one is a number above 0 times the other."""
    need_same_turns(one, other)
    if list(one.known) != list(other.known):
        return False
    if len(one.known) == 0:
        return True
    place = list(one.known)[0]
    first, second = one.known[place], other.known[place]
    if sign(first) != sign(second):
        return False
    # Crosswise, as not every number can stand below.
    return all([times(number, second) == times(other.known[key], first) for key, number in one.known.items()])


def parted(standing, names):
    """("parted", one, other), one of the turns of some names; or ("joint", p, q, r, s), which show why not."""
    need_standing(standing)
    need_some_names(standing, names)
    inside, outside = sides_of(standing, names)
    shown = joint_places(standing, inside, outside)
    if shown is not None:
        return ("joint", *shown)
    ones, others = {}, {}
    if len(standing.known) > 0:
        # At this one number both have their own: in one of them it is taken out again.
        corner = list(standing.known)[0]
        pivot = standing.known[corner]
        for places, number in standing.known.items():
            if at_places(places, outside) == at_places(corner, outside):
                ones[at_places(places, inside)] = number
            if at_places(places, inside) == at_places(corner, inside):
                others[at_places(places, outside)] = over(number, pivot)
    turns = standing.order
    return "parted", Standing(at_places(turns, inside), ones), Standing(at_places(turns, outside), others)


def are_turns(thing):
    """Whether it is a tuple of the turns of a standing."""
    if not isinstance(thing, tuple) or not 1 <= len(thing) <= MOST_TURNS:
        return False
    if not all([is_turn(turn) for turn in thing]):
        return False
    return are_unlike([name for name, size in thing]) and products_of(thing) <= MOST_PRODUCTS


def is_turn(thing):
    """Whether it is a tuple (name, size) of a turn."""
    if not isinstance(thing, tuple) or len(thing) != 2:
        return False
    return is_name(thing[0]) and is_size(thing[1]) and thing[1] <= HIGHEST_OF_TURN


def products_of(turns):
    """How many products of offsets turns have."""
    count = 1
    for name, size in turns:
        count *= size + 1
    return count


def is_table(turns, thing):
    """Whether it is a dict from tuples of offsets of turns to exact numbers."""
    if not isinstance(thing, dict):
        return False
    return all([are_places(turns, places) and isinstance(number, Exact) for places, number in thing.items()])


def are_places(turns, thing):
    """Whether it is a tuple of offsets, one of each turn."""
    if not isinstance(thing, tuple) or len(thing) != len(turns):
        return False
    return all([is_offset(offset, size) for offset, (name, size) in zip(thing, turns)])


def need_standing(thing):
    """Refuse what is no standing."""
    if not isinstance(thing, Standing):
        raise NoStanding("no standing")


def need_same_turns(one, other):
    """Refuse what aren't two standings of the same turns in the same order."""
    need_standing(one)
    need_standing(other)
    if one.order != other.order:
        raise NoStanding("two standings of other turns, or in another order")


def need_some_names(standing, names):
    """Refuse what is no list of some, not all, of the names of a standing, each once."""
    if not isinstance(names, list):
        raise NoStanding("the turns to be parted are told as a list of names")
    own = [name for name, size in standing.order]
    for name in names:
        if name not in own:
            raise NoName(name)
    if not 1 <= len(names) < len(own) or not are_unlike(names):
        raise NoStanding("some turns are parted from some others")


def numbers_beside(numbers, others):
    """A dict of the products of two dicts of numbers, at both tuples of offsets together."""
    return {
        places + behind: times(number, other) for places, number in numbers.items() for behind, other in others.items()
    }


def sides_of(standing, names):
    """The list of the places of the turns of some names, and that of the others."""
    named = [name in names for name, size in standing.order]
    inside = [at for at, is_named in enumerate(named) if is_named]
    return inside, [at for at, is_named in enumerate(named) if not is_named]


def at_places(things, places):
    """The tuple of what a tuple has at some places."""
    return tuple([things[at] for at in places])


def joint_places(standing, inside, outside):
    """Four tuples of offsets that show that turns aren't parted from the others; None where they are."""
    if len(standing.known) == 0:
        return None
    p = list(standing.known)[0]
    for q in with_offsets_at(standing, p, outside):
        for r in with_offsets_at(standing, p, inside):
            s = tuple([r[at] if at in inside else q[at] for at in range(len(p))])
            if times(standing.at(p), standing.at(s)) != times(standing.at(q), standing.at(r)):
                return p, q, r, s
    return None


def with_offsets_at(standing, places, varied):
    """The list of all tuples of offsets that are unlike one at most where they are varied."""
    found = [()]
    for at, (name, size) in enumerate(standing.order):
        choices = list(range(-size, size + 1, 2)) if at in varied else [places[at]]
        found = [(*ahead, offset) for ahead in found for offset in choices]
    return found
