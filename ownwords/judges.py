"""Judges: whether an answer about the places of a book is valid, whoever gave it."""

from ownwords.clashes import is_clash_behind
from ownwords.foldings import unfolded
from ownwords.forms import is_answer
from ownwords.histories import person_at
from ownwords.worlds import is_history_of


def is_one(book, one, other, thing):
    """Whether this is a valid answer "one" of who about these places."""
    # No pair is put, so no put step is allowed.
    unfolded(book, ((one, other),))
    folding = unfolded(book, ())
    return is_answer(thing, "one", 2) and folding.takes(thing[1]) and folding.are_one(one, other)


def is_two(book, one, other, thing):
    """Whether this is a valid answer "two" of who about these places."""
    folding = unfolded(book, ((one, other),))
    return is_answer(thing, "two", 3) and is_clash_behind(folding, thing[1], thing[2])


def is_open(book, one, other, thing):
    """Whether this is a valid answer "open" of who about these places."""
    unfolded(book, ((one, other),))
    if not is_answer(thing, "open", 3):
        return False
    if not is_history_of(book, thing[1]) or not is_history_of(book, thing[2]):
        return False
    return are_met(thing[1], one, other) and not are_met(thing[2], one, other)


def is_never(book, pairs, thing):
    """Whether this is a valid answer "never" of could_be about these pairs."""
    folding = unfolded(book, pairs)
    return is_answer(thing, "never", 3) and is_clash_behind(folding, thing[1], thing[2])


def are_met(history, one, other):
    """Whether in this history of a book of "me" the same person is at the two places."""
    return person_at(history, "me", one) == person_at(history, "me", other)
