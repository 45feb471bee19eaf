"""Bills: what the knowledge in a book has cost."""

from ownwords.books import check_book
from ownwords.foldings import folded
from ownwords.lives import Lives


def bill(book):
    """How many lots and ties the book knows of, and how many of its rows found something again or made a tie."""
    folding = folded(book, ())
    facts = folding.facts
    names = Lives(folding, ()).names
    ties = {names.least(folding.name_of(end)): True for end in facts.ends}
    found = len(facts.found) + len(facts.unleft) + len(facts.made) + len(facts.selves)
    return {"lots": len(folding.lots_now()), "ties": len(ties), "found": found}


def gained(book):
    """For each row, how many lots of the rows before it it merged into others."""
    check_book(book)
    found = []
    before = folded([], ())
    for number in range(len(book)):
        now = folded(book[:number + 1], ())
        still = {now.lot_of(place): True for place in before.facts.places}
        found.append(len(before.lots_now()) - len(still))
        before = now
    return found
