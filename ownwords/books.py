"""Books: which rows are valid, and the places and ties that a book tells of."""

from ownwords.errors import NoBook, NoPlace
from ownwords.forms import is_below, is_mark, is_row_errand, is_way, is_whole, is_word


def places(book):
    """All places of the book, in order."""
    check_book(book)
    return [(number, step) for number, row in enumerate(book) for step in range(len(backs_of(row)) + 1)]


def ties(book):
    """The names of all ties of the book, in order."""
    check_book(book)
    return [(number, step) for number, row in enumerate(book) for step in range(1, ties_of(row) + 1)]


def check_book(book):
    """Raises NoBook if this is not a valid book."""
    if not isinstance(book, list):
        raise NoBook(None, None)
    number = first_bad_row(book)
    if number is not None:
        raise NoBook(None, number)


def check_place(book, place):
    """Raises NoPlace if the valid book has no such place."""
    if not isinstance(place, tuple) or len(place) != 2 or not has_place(book, place[0], place[1]):
        raise NoPlace(place)


def has_place(book, number, step):
    """Whether the valid book has a row of this number with a place after so many steps."""
    return is_below(number, len(book)) and is_below(step, len(backs_of(book[number])) + 1)


def first_bad_row(rows):
    """The number of the first row that is invalid by itself or by the rows before it, or None."""
    claimed = {}
    calm_from = 0
    for number, row in enumerate(rows):
        if not is_row(row):
            return number
        claim = claim_of(row)
        if claim in claimed:
            return number
        if claim is not None:
            claimed[claim] = True
        if row[0] == "met":
            # No calm row may reach back to this row or beyond it.
            calm_from = number + 1
        if row[0] == "calm" and not calm_from <= row[1] < number:
            return number
    return None


def is_row(thing):
    """Whether this has the form of a row, whatever other rows there are."""
    return is_letter(thing) or is_met(thing) or is_calm(thing)


def is_met(thing):
    """Whether this has the form of a met row."""
    if not isinstance(thing, tuple) or len(thing) != 3:
        return False
    return thing[0] == "met" and is_word(thing[1]) and is_mark(thing[2])


def is_calm(thing):
    """Whether this has the form of a calm row."""
    return isinstance(thing, tuple) and len(thing) == 2 and thing[0] == "calm" and is_whole(thing[1])


def is_letter(thing):
    """Whether this has the form of the row of a letter."""
    if not isinstance(thing, tuple) or len(thing) != 3:
        return False
    way, errand, seen = thing
    if not is_way(way) or not is_row_errand(errand):
        return False
    if errand[0] == "part" and len(way) == 0:
        return False
    return is_seen(seen, len(way), errand[0])


def is_seen(thing, steps, kind):
    """Whether a letter of so many steps and with this kind of errand can have seen this."""
    if not isinstance(thing, tuple) or len(thing) < 2 or not is_way(thing[1]):
        return False
    backs = len(thing[1])
    if thing[0] == "lost":
        return len(thing) == 2 and backs < steps
    return thing[0] == "came" and len(thing) == 3 and backs == steps and is_brought(thing[2], kind)


def is_brought(thing, kind):
    """Whether this kind of errand can bring this back."""
    if kind == "list":
        return is_way(thing) and all([one < two for one, two in zip(thing, thing[1:])])
    if kind == "look":
        return isinstance(thing, bool)
    if kind == "tie":
        return thing == "self" or (is_way(thing) and len(thing) == 2)
    if kind == "meet":
        return thing is None or thing in ("self", "met")
    return thing is None


def is_sent(row):
    """Whether the valid row is that of a letter."""
    return row[0] not in ("met", "calm")


def claim_of(row):
    """What no two rows of a book may share: the mark left or the sign met by, or None."""
    if row[0] == "met":
        return ("sign", row[2])
    if is_sent(row) and row[1][0] == "meet":
        return ("sign", row[1][1])
    if is_sent(row) and row[1][0] == "leave":
        return ("mark", row[1][1])
    return None


def backs_of(row):
    """The backs of a valid row; met and calm rows have none."""
    return row[2][1] if is_sent(row) else ()


def made_tie(row):
    """Whether the valid row is that of a tie letter that made a tie."""
    return is_sent(row) and row[1] == ("tie",) and row[2][0] == "came" and row[2][2] != "self"


def ties_of(row):
    """How many ties of the book have the number of this valid row in their names."""
    steps = len(backs_of(row))
    return steps + 1 if made_tie(row) else steps
