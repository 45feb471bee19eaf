"""Verdicts: what the owner of a book can know of its people and words."""

from ownwords.books import check_book, check_place
from ownwords.clashes import first_clash
from ownwords.errors import NoRow, NoWorld
from ownwords.foldings import folded
from ownwords.forms import is_below
from ownwords.lives import Lives
from ownwords.worlds import told_history


def who(book, one, other):
    """Whether the same person is at the two places: known to be one, known to be two, or open."""
    check_book(book)
    check_place(book, one)
    check_place(book, other)
    apart = sound_folding(book)
    if apart.are_one(one, other):
        return ("one", tuple(apart.steps))
    merged = folded(book, ((one, other),))
    clash = first_clash(merged)
    if clash is not None:
        return ("two", tuple(merged.steps), clash)
    return ("open", told_history(merged, ()), told_history(apart, ()))


def could_be(book, pairs):
    """A history in which the same person is at both places of each pair, or why there is none."""
    merged = folded(book, pairs)
    sound_folding(book)
    clash = first_clash(merged)
    if clash is not None:
        return ("never", tuple(merged.steps), clash)
    return ("history", told_history(merged, ()))


def word_at(book, place, word, row):
    """Whether the person at the place used the word at the moment of the row: yes, no, or open."""
    check_book(book)
    check_place(book, place)
    folding = sound_folding(book)
    if not is_below(row, len(book)):
        raise NoRow(row)
    living, lacking = ("lives", place, word, row), ("lacks", place, word, row)
    if not is_possible(folding, lacking):
        return ("yes",)
    if not is_possible(folding, living):
        return ("no",)
    return ("open", told_history(folding, (living,)), told_history(folding, (lacking,)))


def sound_folding(book):
    """The folding of a valid book after all steps; raises NoWorld if its lots have a clash."""
    folding = folded(book, ())
    check_sound(folding)
    return folding


def check_sound(folding):
    """Raises NoWorld if the lots of the folding have a clash."""
    clash = first_clash(folding)
    if clash is not None:
        raise NoWorld((tuple(folding.steps), clash))


def is_possible(folding, wish):
    """Whether the tie of the wish still has a life with the mark of the wish."""
    return Lives(folding, (wish,)).marks_at(wish[1], wish[2]).has_life()
