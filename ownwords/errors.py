"""The errors of the package.

Their messages never show the values that were passed in: such a value may be too deep or too large to be written out.
"""


class NoHistory(ValueError):
    """The history is invalid: at is the number of its first invalid event, or None."""

    def __init__(self, at):
        ValueError.__init__(self, "this is not a valid history")
        self.at = at


class NoBook(ValueError):
    """The book is invalid: name is its name among several books, row the number of its first invalid row, or None."""

    def __init__(self, name, row):
        ValueError.__init__(self, "this is not a valid book")
        self.name = name
        self.row = row


class NoPlace(LookupError):
    """The place does not exist: place is the value that was passed in."""

    def __init__(self, place):
        LookupError.__init__(self, "there is no such place in the book")
        self.place = place


class NoRow(LookupError):
    """The row does not exist: row is the value that was passed in."""

    def __init__(self, row):
        LookupError.__init__(self, "there is no such row in the book")
        self.row = row


class NoName(LookupError):
    """No owner has the name: name is the value that was passed in."""

    def __init__(self, name):
        LookupError.__init__(self, "there is no owner of this name")
        self.name = name


class NoWorld(ValueError):
    """No history has the book: paper is the certificate of that."""

    def __init__(self, paper):
        ValueError.__init__(self, "no history has this book")
        self.paper = paper


class NoSorting(ValueError):
    """The sorting is invalid: sorting is the value that was passed in."""

    def __init__(self, sorting):
        ValueError.__init__(self, "this is not a sorting of the lots")
        self.sorting = sorting


class NoSheets(ValueError):
    """The number of sheets or the shifts are invalid: k and shifts are the values that were passed in."""

    def __init__(self, k, shifts):
        ValueError.__init__(self, "these are not sheets and shifts for this history")
        self.k = k
        self.shifts = shifts


class TooMany(ValueError):
    """There is more to try out than the function takes: many is how much."""

    def __init__(self, many):
        ValueError.__init__(self, "there are too many cases")
        self.many = many
