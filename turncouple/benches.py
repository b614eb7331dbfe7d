"""The bench: a standing that is kept through deeds, asked for exact shares, and taken back."""

from turncouple.errors import Empty, NoDeed, NoName, NoNumber, NoOffset, NoQuestion, NoSize, NoStanding, NotParted
from turncouple.errors import NothingDone, TooWide
from turncouple.halves import turned_standing
from turncouple.numbers import add_at, all_over, exact, over, sum_of_squares, times, whole_times, without_noughts
from turncouple.standings import HIGHEST_OF_TURN, MOST_PRODUCTS, MOST_TURNS, Standing, at_places, joint_places
from turncouple.standings import numbers_beside, products_of, sides_of
from turncouple.trees import joined_known, need_labelled, numbers_of
from turncouple.turns import is_offset, is_size, offsets, sizes_of
from turncouple.whole import are_unlike, is_name, is_whole

MOST = 100
MOST_QUESTIONS = 3
# How many things a deed of each word has, the word among them.
LENGTHS = {"put": 4, "joined": 3, "turn": 3, "keep": 3, "let": 2}


class Bench:
    """A bench, at first without turns; most is how many products its standing may have."""

    def __init__(self, *, most=MOST):
        if not is_whole(most) or not 1 <= most <= MOST_PRODUCTS:
            raise NoNumber("a bench has from 1 to 128 products at most")
        self.most = most
        # None is the standing of no turns.
        self.now = None
        # Each a tuple (deed or list of deeds, the standing ahead of it) or (.., the standing behind it).
        self.behind = []
        self.ahead = []

    def do(self, deed):
        """Do a deed."""
        reached = after(self.now, deed, self.most)
        self.behind.append((copied(deed), self.now))
        self.ahead = []
        self.now = reached

    def run(self, deeds):
        """Do all of a list of deeds, or none."""
        if not isinstance(deeds, list):
            raise NoDeed("deeds to be run are a list")
        reached = self.now
        for deed in deeds:
            reached = after(reached, deed, self.most)
        self.behind.append((copied(deeds), self.now))
        self.ahead = []
        self.now = reached

    def undo(self):
        """Take back the last deed or run that stands."""
        if len(self.behind) == 0:
            raise NothingDone("nothing to take back")
        deed, before = self.behind.pop()
        self.ahead.append((deed, self.now))
        self.now = before

    def again(self):
        """Do again what was taken back last."""
        if len(self.ahead) == 0:
            raise NothingDone("nothing to do again")
        deed, reached = self.ahead.pop()
        self.behind.append((deed, self.now))
        self.now = reached

    def square(self):
        """The sum of the squares of the standing's numbers."""
        return square_of_standing(self.now)

    def shares(self, question):
        """The rising list of (outcome, share) of a question."""
        need_question(self.now, question)
        return [(outcomes[0], share) for outcomes, share in shares_told(self.now, [question])]

    def shares_of(self, questions):
        """The rising list of (outcomes, share) of one to three questions asked one behind the other."""
        if not isinstance(questions, list) or not 1 <= len(questions) <= MOST_QUESTIONS:
            raise NoQuestion("one to three questions are told as a list")
        for question in questions:
            need_question(self.now, question)
        return shares_told(self.now, questions)

    def go_with(self, question, other):
        """Whether two questions go with one another."""
        need_question(self.now, question)
        need_question(self.now, other)
        return are_in_step(question, other)

    def standing(self):
        """The standing."""
        if self.now is None:
            raise NoStanding("a bench without turns")
        return self.now

    def names(self):
        """The list of the names of the turns, in order."""
        return names_on(self.now)

    def done(self):
        """The list of the deeds that stand, runs as lists."""
        return [copied(deed) for deed, before in self.behind]


def copied(thing):
    """A copy of lists and tuples, however deep."""
    if isinstance(thing, list):
        return [copied(part) for part in thing]
    if isinstance(thing, tuple):
        return tuple([copied(part) for part in thing])
    return thing


def turns_on(standing):
    """The turns of a standing, or of none."""
    return () if standing is None else standing.order


def names_on(standing):
    """The names of a standing, or of none."""
    return [name for name, size in turns_on(standing)]


def square_of_standing(standing):
    """The sum of the squares of the numbers of a standing, 1 of none."""
    if standing is None:
        return exact(1)
    numbers, bottom = whole_times(standing.known)
    return times(sum_of_squares(list(numbers.values())), exact(1, bottom=bottom * bottom))


def need_deed(thing):
    """Refuse what is no deed by word and length, or has no list of names where one is due."""
    if not isinstance(thing, tuple) or len(thing) == 0 or not isinstance(thing[0], str):
        raise NoDeed("a deed is a tuple, its word first")
    word = thing[0]
    if word not in LENGTHS or len(thing) != LENGTHS[word]:
        raise NoDeed("no such deed, or not of so many things")
    if word in ("turn", "let") and not is_list_of_unlike(thing[1]):
        raise NoDeed("the names of a deed are a list of one or more unlike ones")


def is_list_of_unlike(thing):
    """Whether it is a list of one or more unlike things."""
    return isinstance(thing, list) and len(thing) > 0 and are_unlike(thing)


def need_names_on(standing, names):
    """Refuse names that aren't there."""
    own = names_on(standing)
    for name in names:
        if name not in own:
            raise NoName(name)


def need_new_names(standing, names):
    """Refuse what is no name, or is there already."""
    own = names_on(standing)
    for name in names:
        if not is_name(name) or name in own:
            raise NoName(name)


def need_room(standing, turns, most):
    """Refuse more turns than a bench may have."""
    every = turns_on(standing) + turns
    if len(every) > MOST_TURNS or products_of(every) > most:
        raise TooWide("more products, or turns, than the bench may have")


def need_question(standing, thing):
    """Refuse what is no question, then names that aren't there."""
    if not isinstance(thing, tuple) or len(thing) != 2 or thing[0] not in ("size", "offset"):
        raise NoQuestion("a question is a tuple of its word and names")
    if not is_list_of_unlike(thing[1]):
        raise NoQuestion("the names of a question are a list of one or more unlike ones")
    need_names_on(standing, thing[1])


def with_turns(standing, turns, numbers):
    """The standing with some turns more, behind its own."""
    own = {(): exact(1)} if standing is None else standing.known
    return Standing(turns_on(standing) + turns, numbers_beside(own, numbers))


def after(standing, deed, most):
    """The standing behind a deed."""
    need_deed(deed)
    word, *things = deed
    if word == "put":
        return after_put(standing, things, most)
    if word == "joined":
        return after_joined(standing, things, most)
    if word == "turn":
        return after_turn(standing, things)
    if word == "keep":
        return after_keep(standing, things)
    return after_let(standing, things[0])


def after_put(standing, things, most):
    """The standing with one turn more."""
    name, size, offset = things
    need_new_names(standing, [name])
    if not is_size(size) or size > HIGHEST_OF_TURN:
        raise NoSize("the size of a turn is a whole number from 0 to 8")
    if not is_offset(offset, size):
        raise NoOffset("no offset of the size")
    turns = ((name, size),)
    need_room(standing, turns, most)
    return with_turns(standing, turns, {(offset,): exact(1)})


def after_joined(standing, things, most):
    """The standing with the turns of a labelled tree more."""
    labelled, offset = things
    turns = tuple(need_labelled(labelled))
    need_new_names(standing, [name for name, size in turns])
    if not is_offset(offset, labelled[-1]):
        raise NoOffset("no offset of the tree's last size")
    # Ahead of the numbers, which may be far too many.
    need_room(standing, turns, most)
    return with_turns(standing, turns, numbers_of(labelled, offset, {}))


def after_turn(standing, things):
    """The standing with some turns turned."""
    names, half = things
    # Ahead, as a bench without turns has no standing that could be turned.
    need_names_on(standing, names)
    return turned_standing(standing, names, half)


def after_keep(standing, things):
    """What is left of the standing where a question has an outcome."""
    question, outcome = things
    need_question(standing, question)
    known = {}
    numbers, bottom = whole_times(standing.known)
    parts = parts_by(Standing(standing.order, numbers), question, known)
    # A truth would pass for the outcome 0 or 1.
    if not is_whole(outcome) or outcome not in parts:
        raise Empty("an outcome without a share")
    left = put_together(standing, question, parts[outcome], known)
    return Standing(left.order, all_over(left.known, bottom))


def after_let(standing, names):
    """The standing of the turns that stay where some are taken out."""
    need_names_on(standing, names)
    inside, outside = sides_of(standing, names)
    if len(outside) == 0 or joint_places(standing, inside, outside) is not None:
        raise NotParted("turns that stand jointly with the others, or all")
    least = min([at_places(places, inside) for places in standing.known])
    numbers = {}
    for places, number in standing.known.items():
        if at_places(places, inside) == least:
            numbers[at_places(places, outside)] = number
    return Standing(at_places(standing.order, outside), numbers)


def are_in_step(question, other):
    """Whether two questions go with one another, by their words and names."""
    (word, names), (second, others) = question, other
    if word == second == "offset" or not [name for name in names if name in others]:
        return True
    within = all([name in others for name in names])
    around = all([name in names for name in others])
    if word == second:
        return within or around
    return within if word == "size" else around


def shares_told(standing, questions):
    """The rising list of (outcomes, share) of questions that are known to be some."""
    numbers, bottom = whole_times(standing.known)
    # However often a standing is taken, its shares are the same.
    longer = Standing(standing.order, numbers)
    square = square_of_standing(longer)
    found = squares_told(longer, questions, {})
    return [(outcomes, over(found[outcomes], square)) for outcomes in sorted(list(found))]


def squares_told(standing, questions, known):
    """A dict from outcomes to the squares, which aren't 0, of what is left there."""
    question, *others = questions
    found = {}
    for outcome, part in parts_by(standing, question, known).items():
        if len(others) == 0:
            # Parts by sizes are as long as the products of offsets that they tell.
            found[(outcome,)] = sum_of_squares(list(part.values()))
        else:
            left = put_together(standing, question, part, known)
            for outcomes, square in squares_told(left, others, known).items():
                key = (outcome,) + outcomes
                found[key] = square
    return found


def parts_by(standing, question, known):
    """A dict from the outcomes of a question to what is left there: a dict of numbers that aren't 0, never without one.

    These stand by offsets where offsets are asked, by joined sizes where a size is.
    """
    word, names = question
    inside, outside = sides_of(standing, names)
    if word == "size":
        numbers = numbers_joined(standing, inside, outside, known)
    else:
        numbers = standing.known
    found = {}
    for key, number in numbers.items():
        outcome = key[0][-1] if word == "size" else sum(at_places(key, inside))
        part = found.setdefault(outcome, {})
        part[key] = number
    return found


def put_together(standing, question, part, known):
    """The standing that is left at an outcome, of its part as parts_by tells it."""
    word, names = question
    if word == "offset":
        return Standing(standing.order, part)
    inside, outside = sides_of(standing, names)
    return Standing(standing.order, numbers_apart(standing, part, inside + outside, known))


def numbers_joined(standing, inside, outside, known):
    """The numbers of a standing whose turns inside are joined one by one, from the left.

    They stand by (sizes joined so far, offset, offsets of all other turns).
    """
    sizes = [standing.order[at][1] for at in inside]
    numbers = {}
    for places, number in standing.known.items():
        first, *others = at_places(places, inside + outside)
        numbers[((sizes[0],), first, tuple(others))] = number
    for size in sizes[1:]:
        found = {}
        for (label, offset, places), number in numbers.items():
            u, *others = places
            for end in sizes_of(label[-1], size):
                if is_offset(offset + u, end):
                    factor = joined_known((label[-1], offset), (size, u), (end, offset + u), known)
                    add_at(found, ((*label, end), offset + u, tuple(others)), times(number, factor))
        numbers = without_noughts(found)
    return numbers


def numbers_apart(standing, numbers, order, known):
    """The numbers by offsets of what numbers_joined has made; order tells the places of the turns there."""
    joints = len(list(numbers)[0][0]) - 1
    for at in reversed(range(1, joints + 1)):
        name, size = standing.order[order[at]]
        found = {}
        for (label, offset, others), number in numbers.items():
            end, far = label[-1], label[-2]
            for u in offsets(size):
                if is_offset(offset - u, far):
                    factor = joined_known((far, offset - u), (size, u), (end, offset), known)
                    add_at(found, (label[:-1], offset - u, (u, *others)), times(number, factor))
        numbers = found
    back = [order.index(at) for at in range(len(order))]
    return {at_places((first, *others), back): number for (label, first, others), number in numbers.items()}
