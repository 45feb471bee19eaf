"""Worlds: histories that have a book."""

from ownwords.books import check_book, made_tie
from ownwords.clashes import first_clash
from ownwords.errors import NoHistory
from ownwords.foldings import folded
from ownwords.forms import NAME_SIGNS, WORD_SIGNS, spelled
from ownwords.histories import played
from ownwords.lives import Lives


def history_of(book):
    """A history that has the book, or steps and the clash that show that there is none."""
    folding = folded(book, ())
    clash = first_clash(folding)
    if clash is not None:
        return ("clash", tuple(folding.steps), clash)
    return ("history", told_history(book, folding, ()))


def is_history_of(book, thing):
    """Whether this is a history whose owner "me" has exactly this book."""
    check_book(book)
    try:
        books = played(thing)
    except NoHistory:
        return False
    return "me" in books and books["me"] == book


def told_history(book, folding, wishes):
    """A history that has the book, in which the lots of the folding are different people.

    The lots have no clash, and the ties have lives with the marks that the wishes add.
    """
    world = World(folding, Lives(folding, wishes))
    events = []
    for number, row in enumerate(book):
        events.extend(world.births.get(number, []))
        if row[0] == "met":
            events.extend(world.visit(row))
        else:
            events.append(("letter", "me", row[0], sent_errand(row)))
        events.extend(world.ends.get(number, []))
    return (max(world.people, 1), tuple(world.owners), tuple(events))


def sent_errand(row):
    """The errand as its letter had it; where no tie was made, the words of a tie errand do not matter."""
    if row[1] != ("tie",):
        return row[1]
    words = row[2][2] if made_tie(row) else (WORD_SIGNS[0], WORD_SIGNS[0])
    return ("tie", *words)


def met_lots(folding):
    """The lots in which meet letters met other owners, each once, in order."""
    met = [folding.lot_of(goal) for home, goal, thing in folding.facts.meets.values() if thing == "met"]
    return sorted(set(met))


class World:
    """The people of a book, the lots first, and the ties among them, each of which lives no longer than it must."""

    def __init__(self, folding, lives):
        self.numbers = {lot[0]: number for number, lot in enumerate(folding.lots_now())}
        self.people = len(self.numbers)
        # For each row the births right ahead of it, and the ends right behind it.
        self.births = {}
        self.ends = {}
        # For each person and word at the first end of a tie: the person and the word at the other.
        self.across = {}
        # The owner of the book is in the first lot.
        self.owners = [("me", 0)]
        self.used_words = {word: True for lot, word in lives.names.members()}
        self.lone_word = self.new_word()
        for name, names in lives.all_ties().items():
            if len(lives.marks[name].sure_moments()) > 0:
                self.set_tie(names, lives.marks[name])
        for lot in met_lots(folding):
            self.new_owner(self.numbers[lot])
        # The number and the name of the one who sends the letters of met rows.
        self.visitor = self.visitor_name = None
        if len(folding.facts.mets) > 0:
            self.visitor = self.new_person()
            self.visitor_name = self.new_owner(self.visitor)

    def new_person(self):
        """The number of one more person."""
        self.people += 1
        return self.people - 1

    def new_word(self):
        """A word that no one has yet."""
        number = 0
        while spelled(number, WORD_SIGNS) in self.used_words:
            number += 1
        word = spelled(number, WORD_SIGNS)
        self.used_words[word] = True
        return word

    def new_owner(self, person):
        """Makes this person one more owner; returns the name."""
        name = "you" + spelled(len(self.owners), NAME_SIGNS)
        self.owners.append((name, person))
        return name

    def set_tie(self, names, marks):
        """Sets a tie of these names; where only one end is known, someone new is at the other."""
        ends = [(self.numbers[lot], word) for lot, word in names]
        if len(ends) == 1:
            ends.append((self.new_person(), self.lone_word))
        one, other = ends
        self.across[one] = other
        sure = marks.sure_moments()
        first, last = min(sure) // 2, max(sure) // 2
        if len(marks.born) == 0:
            self.births.setdefault(first, []).append(("born", *one, *other))
        if len(marks.dead) == 0:
            self.ends.setdefault(last, []).append(("gone", *one))

    def visit(self, row):
        """The events by which a met row comes: the visitor has a tie to the next person for that moment alone.

        The first end of the last tie of the way is the one of the owner of the book, whose lot comes first.
        """
        goal, back = self.across[(0, row[1])]
        word = self.new_word()
        return [
            ("born", self.visitor, word, goal, word),
            ("letter", self.visitor_name, (word, back), ("meet", row[2])),
            ("gone", self.visitor, word),
        ]
