"""Labelled trees and standings written as texts, and read back."""

from turncouple.errors import NoText
from turncouple.numbers import read_exact
from turncouple.standings import MOST_TURNS, Standing, are_turns, need_standing
from turncouple.trees import is_labelled, need_labelled
from turncouple.turns import HIGHEST_SIZE, offsets


def show_tree(labelled):
    """The text of a labelled tree."""
    need_labelled(labelled)
    return text_of_tree(labelled)


def show_standing(standing):
    """The text of a standing, rows parted by line ends."""
    need_standing(standing)
    rows = [" ".join([text_of_turn(name, size) for name, size in standing.order])]
    for places, number in standing.known.items():
        rows.append(" ".join([str(offset) for offset in places]) + " = " + str(number))
    return "\n".join(rows)


def read_tree(text):
    """The labelled tree of a text."""
    # A tree has fewer brackets than names: what has more is refused ahead, however deep it would lead.
    if not isinstance(text, str) or text.count("(") >= MOST_TURNS:
        raise NoText(0)
    labelled = tree_in(text)
    if not is_labelled(labelled):
        raise NoText(0)
    return labelled


def read_standing(text):
    """The standing of a text."""
    if not isinstance(text, str):
        raise NoText(0)
    heading, *rows = text.split("\n")
    turns = tuple([turn_in(word) for word in heading.split(" ")])
    if not are_turns(turns):
        raise NoText(0)
    numbers = {}
    before = None
    for at, row in enumerate(rows, start=1):
        places, mark, words = row.partition(" = ")
        offsets_told = places_in(places, turns)
        if offsets_told is None or (before is not None and offsets_told <= before):
            raise NoText(at)
        numbers[offsets_told] = number_in(words, at)
        before = offsets_told
    return Standing(turns, numbers)


def text_of_turn(name, size):
    """The text of a turn."""
    return f"{name}:{size}"


def text_of_tree(labelled):
    """The text of what is known to be a labelled tree."""
    if len(labelled) == 2:
        return text_of_turn(labelled[0], labelled[1])
    left, right, size = labelled
    return f"({text_of_tree(left)} {text_of_tree(right)}):{size}"


def size_in(text):
    """The size of its text; None of another text."""
    return {str(size): size for size in range(HIGHEST_SIZE + 1)}.get(text)


def turn_in(word):
    """(name, size) of a word like `a:2`; whether both are right is seen by whoever takes it."""
    name, mark, figures = word.partition(":")
    return name, size_in(figures)


def tree_in(text):
    """The labelled tree that a text would tell; None, or what is no labelled tree, of another text."""
    if not text.startswith("("):
        return turn_in(text)
    inner, mark, figures = text[1:].rpartition("):")
    if mark == "":
        return None
    middle = middle_of(inner)
    if middle is None:
        return None
    return tree_in(inner[:middle]), tree_in(inner[middle + 1:]), size_in(figures)


def middle_of(text):
    """The place of the one blank that stands in no bracket; None where there isn't just one."""
    depth = 0
    found = []
    for at, letter in enumerate(text):
        if letter == "(":
            depth += 1
        if letter == ")":
            depth -= 1
        if letter == " " and depth == 0:
            found.append(at)
    return found[0] if len(found) == 1 else None


def places_in(text, turns):
    """The tuple of offsets that a text tells, one of each turn; None of another text."""
    words = text.split(" ")
    if len(words) != len(turns):
        return None
    places = []
    for word, (name, size) in zip(words, turns):
        known = {str(offset): offset for offset in offsets(size)}
        if word not in known:
            return None
        places.append(known[word])
    return tuple(places)


def number_in(text, at):
    """The number of a text in a row, which isn't 0."""
    try:
        number = read_exact(text)
    except NoText:
        raise NoText(at) from None
    if number.parts == ():
        raise NoText(at)
    return number
