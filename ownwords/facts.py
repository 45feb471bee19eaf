"""What valid books tell, sorted out by kind.

A row of a single book is known by its number, and a row of several books by the name of its book and its number.
"""

from ownwords.books import backs_of, is_sent, made_tie
from ownwords.forms import is_whole

# The owner of a single book.
ME = "me"


def facts_of(book):
    """The facts of a valid book."""
    facts = Facts()
    facts.note_book(ME, book, list(range(len(book))))
    facts.runs = run_spans(book)
    return facts


def facts_of_several(books):
    """The facts of several valid books together."""
    facts = Facts()
    for name in sorted(books):
        facts.note_book(name, books[name], [(name, number) for number in range(len(books[name]))])
    facts.join_signs()
    return facts


def run_spans(book):
    """For each row of a run of the book, the first and the last row of that run."""
    spans = []
    for number, row in enumerate(book):
        if row[0] == "calm":
            first = row[1]
            while len(spans) > 0 and spans[-1][1] >= first:
                first = min(first, spans.pop()[0])
            spans.append((first, number))
    return {number: span for span in spans for number in range(span[0], span[1] + 1)}


def place_of(row, step):
    """The place of a row after so many steps."""
    return (row, step) if is_whole(row) else row + (step,)


def owner_of(row):
    """The name of the owner in whose book the row is."""
    return ME if is_whole(row) else row[0]


class Facts:
    """The facts of valid books; rows, places, ties and ends are named as in the answers about them."""

    def __init__(self):
        # Each row as its book has it.
        self.rows = {}
        # For each row the one by which its moment is known: a meet letter and its met row are one moment.
        self.moments = {}
        # For each owner the first place of the book, or None if it has no rows.
        self.first_homes = {}
        self.places = []
        # Each place where an owner is, with the first one of the same owner.
        self.homes = {}
        # Each end with its place and its word; the ends stand in order.
        self.ends = {}
        # The rows and ties of all steps that letters took.
        self.followed = []
        # The row, the place and the words of each list; the row, the place and the word of each loss and met row.
        self.lists = []
        self.losses = []
        self.mets = []
        # For each mark that a letter of this book left so far: where.
        self.left = {}
        # For each look: its last place and that of the letter that left its mark, where an earlier one did.
        self.found = {}
        self.missed = {}
        self.unleft = {}
        # For each letter that came back with "self": its last place and its first.
        self.selves = {}
        # For each meet letter that came: its first place, its last place and what it returned.
        self.meets = {}
        # For each sign: the row of the meet letter that came, and the met row.
        self.meets_by_sign = {}
        self.mets_by_sign = {}
        # For each meet letter with a met row: its last place and that of the met row; and whether its back is wrong.
        self.joined = {}
        self.misread = {}
        # For each row that made or ended a tie: which.
        self.made = {}
        self.ended = {}
        # For each row of a run its first and last row.
        self.runs = {}

    def note_book(self, name, book, row_names):
        """Notes what a book tells, whose rows are known by these names."""
        self.left = {}
        self.first_homes[name] = place_of(row_names[0], 0) if len(row_names) > 0 else None
        for row, told in zip(row_names, book):
            self.rows[row] = told
            self.moments[row] = row
            self.homes[place_of(row, 0)] = self.first_homes[name]
            self.places.extend([place_of(row, step) for step in range(len(backs_of(told)) + 1)])
            if told[0] == "met":
                self.mets.append((row, place_of(row, 0), told[1]))
                self.mets_by_sign[told[2]] = row
            elif is_sent(told):
                self.note_letter(row, told)

    def note_letter(self, row, told):
        """Notes what the row of a letter tells."""
        way, errand, seen = told
        self.note_steps(row, way, seen[1])
        self.note_tie(row, told)
        goal = place_of(row, len(seen[1]))
        if seen[0] == "came":
            self.note_errand(row, goal, errand, seen[2])
        else:
            self.losses.append((row, goal, way[len(seen[1])]))

    def note_steps(self, row, way, backs):
        """Notes the ties that a letter went along."""
        for step, back in enumerate(backs, 1):
            tie = place_of(row, step)
            self.ends[tie + (0,)] = (place_of(row, step - 1), way[step - 1])
            self.ends[tie + (1,)] = (place_of(row, step), back)
            self.followed.append((row, tie))

    def note_tie(self, row, told):
        """Notes the tie that a letter made, if it made one."""
        if made_tie(told):
            goal = len(told[0])
            tie = place_of(row, goal + 1)
            self.ends[tie + (0,)] = (place_of(row, 0), told[2][2][0])
            self.ends[tie + (1,)] = (place_of(row, goal), told[2][2][1])
            self.made[row] = tie

    def note_errand(self, row, goal, errand, thing):
        """Notes what a letter that came brought back, or did, at its last place."""
        kind = errand[0]
        if kind == "list":
            self.lists.append((row, goal, thing))
        elif kind == "leave":
            self.left[errand[1]] = goal
        elif kind == "look":
            self.note_look(row, goal, errand[1], thing)
        elif kind == "part":
            # The last tie followed has the same name as the last place.
            self.ended[row] = goal
        elif kind == "meet":
            self.meets[row] = (place_of(row, 0), goal, thing)
            self.meets_by_sign[errand[1]] = row
        if thing == "self":
            self.selves[row] = (goal, place_of(row, 0))

    def note_look(self, row, goal, mark, found):
        """Notes what a look saw, against where its mark was left so far."""
        if mark in self.left:
            noted = self.found if found else self.missed
            noted[row] = (goal, self.left[mark])
        elif found:
            self.unleft[row] = True

    def join_signs(self):
        """Joins each meet letter with the met row of its sign, if there is one."""
        for sign, row in self.meets_by_sign.items():
            if sign in self.mets_by_sign:
                met = self.mets_by_sign[sign]
                self.joined[row] = (self.meets[row][1], place_of(met, 0))
                self.moments[row] = self.moments[met] = min(row, met)
                if backs_of(self.rows[row])[-1:] != (self.rows[met][1],):
                    self.misread[row] = True
