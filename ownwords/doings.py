"""Doings: what the owner of a book can know if calm rows tell when only the owner's own letters did anything."""

from ownwords.books import check_book, check_place
from ownwords.errors import NoRow, NoWorld
from ownwords.foldings import unfolded
from ownwords.forms import is_answer, is_below
from ownwords.trees import grown, is_tree
from ownwords.verdicts import sound_folding
from ownwords.worlds import told_history


def knows(book, one, other):
    """Whether the same person is at the two places: known to be one, known to be two, or open."""
    check_book(book)
    check_place(book, one)
    check_place(book, other)
    tree, apart = grown(unfolded(book, ()), (one, other))
    if tree is not None:
        paper = grown(unfolded(book, ()), None)[0]
        if paper is not None:
            raise NoWorld(paper)
        return ("one", tree)
    tree, together = grown(unfolded(book, ((one, other),)), None)
    if tree is not None:
        return ("two", tree)
    return ("open", told_history(together, ()), told_history(apart, ()))


def doings(book):
    """A history that has the book, or a tree that shows that there is none."""
    tree, left = grown(unfolded(book, ()), None)
    if tree is not None:
        return ("clash", tree)
    return ("history", told_history(left, ()))


def happened(book, i, j):
    """Whether something unseen must have happened between the letters of the two rows: surely, or perhaps."""
    check_book(book)
    for row in (i, j):
        if not is_below(row, len(book)):
            raise NoRow(row)
    if i > j or any([row[0] == "met" for row in book[i:j + 1]]):
        raise NoRow(i)
    sound_folding(book)
    tree, left = grown(unfolded(book[:j + 1] + [("calm", i)] + book[j + 1:], ()), None)
    if tree is not None:
        return ("surely", tree)
    return ("perhaps", told_history(left, ()))


def is_knowing(book, one, other, thing):
    """Whether this is a valid answer "one" or "two" of knows about these places."""
    pairs = ((one, other),)
    folding = unfolded(book, pairs)
    if is_answer(thing, "two", 2):
        return is_tree(folding, thing[1], None)
    return is_answer(thing, "one", 2) and is_tree(unfolded(book, ()), thing[1], pairs[0])
