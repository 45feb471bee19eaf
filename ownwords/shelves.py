"""Shelves: several books together, with their places and rows, and wishes about them."""

from ownwords.books import first_bad_row, has_place
from ownwords.errors import NoBook, NoPlace, NoRow
from ownwords.forms import is_below, is_name


def check_books(books):
    """Raises NoBook if these are not several valid books without calm rows."""
    if not isinstance(books, dict):
        raise NoBook(None, None)
    for name in books:
        if not is_name(name):
            raise NoBook(name, None)
    signs = Signs()
    for name in sorted(books):
        check_next_book(name, books[name], signs)


def check_next_book(name, book, signs):
    """Raises NoBook if the book is not valid beside the ones before it, whose signs these are."""
    if not isinstance(book, list):
        raise NoBook(name, None)
    bad = first_bad_row(book)
    good = book if bad is None else book[:bad]
    for number, row in enumerate(good):
        if row[0] == "calm" or not signs.take(row):
            raise NoBook(name, number)
    if bad is not None:
        raise NoBook(name, bad)


class Signs:
    """The signs of the rows so far."""

    def __init__(self):
        # For each sign of a meet letter whether it met another owner.
        self.meets = {}
        self.mets = {}

    def take(self, row):
        """Notes the sign of a valid row that is not calm; returns whether no row so far speaks against it."""
        if row[0] == "met":
            right = row[2] not in self.mets and self.meets.get(row[2], True)
            self.mets[row[2]] = True
            return right
        if row[1][0] != "meet":
            return True
        sign = row[1][1]
        met = row[2][0] == "came" and row[2][2] == "met"
        right = sign not in self.meets and (met or sign not in self.mets)
        self.meets[sign] = met
        return right


def check_place_in(books, place):
    """Raises NoPlace if the valid books have no such place."""
    if not isinstance(place, tuple) or len(place) != 3 or not is_name(place[0]) or place[0] not in books:
        raise NoPlace(place)
    if not has_place(books[place[0]], place[1], place[2]):
        raise NoPlace(place)


def check_row_in(books, row):
    """Raises NoRow if the valid books have no such row."""
    if not isinstance(row, tuple) or len(row) != 2 or not is_name(row[0]) or row[0] not in books:
        raise NoRow(row)
    if not is_below(row[1], len(books[row[0]])):
        raise NoRow(row)


def check_wish(books, wish):
    """Raises NoPlace or NoRow if the places and rows of the wish are not all there."""
    if wish[0] in ("one", "two"):
        check_place_in(books, wish[1])
        check_place_in(books, wish[2])
    elif wish[0] == "ahead":
        check_row_in(books, wish[1])
        check_row_in(books, wish[2])
    else:
        check_place_in(books, wish[1])
        check_row_in(books, wish[3])


def contrary_of(wish):
    """The wish that is true exactly where this one is not; of moments, where they have the other order."""
    if wish[0] == "ahead":
        return ("ahead", wish[2], wish[1])
    contraries = {"one": "two", "two": "one", "lives": "lacks", "lacks": "lives"}
    return (contraries[wish[0]],) + wish[1:]
