"""Worlds: histories that have a book."""

from ownwords.books import check_book, is_sent, made_tie
from ownwords.clashes import first_clash
from ownwords.errors import NoHistory
from ownwords.facts import ME, owner_of, place_of
from ownwords.foldings import folded
from ownwords.forms import NAME_SIGNS, WORD_SIGNS, spelled
from ownwords.histories import played
from ownwords.lives import Lives


def history_of(book):
    """A history that has the book, or steps and the clash that show that there is none."""
    folding = folded(book, ())
    clash = first_clash(folding)
    if clash is not None:
        return ("clash", tuple(folding.steps), clash)
    return ("history", told_history(folding, ()))


def is_history_of(book, thing):
    """Whether this is a history whose owner "me" has exactly this book."""
    check_book(book)
    try:
        books = played(thing)
    except NoHistory:
        return False
    return ME in books and books[ME] == book


def told_history(folding, wishes):
    """A history that has the single book of the folding, in which the lots are different people.

    The lots have no clash, and the ties have lives with the marks that the wishes add.
    """
    return told_in_order(folding, Lives(folding, wishes), list(folding.facts.rows))


def told_in_order(folding, lives, order):
    """A history that has the books of the folding, in which the moments come in this order."""
    world = World(folding, lives, order)
    events = []
    for moment in order:
        events.extend(world.births.get(moment, []))
        events.extend(world.told_at(moment))
        events.extend(world.ends.get(moment, []))
    return (max(world.people, 1), tuple(world.owners), tuple(events))


def sent_errand(row):
    """The errand as its letter had it; where no tie was made, the words of a tie errand do not matter."""
    if row[1] != ("tie",):
        return row[1]
    words = row[2][2] if made_tie(row) else (WORD_SIGNS[0], WORD_SIGNS[0])
    return ("tie", *words)


def met_lots(folding):
    """The lots in which meet letters met owners whose books are not there, each once, in order."""
    meets, joined = folding.facts.meets, folding.facts.joined
    return sorted({folding.lot_of(meets[row][1]) for row in meets if meets[row][2] == "met" and row not in joined})


class World:
    """The people of some books, the lots first, and the ties among them, each of which lives no longer than it must.

    The moments are in a given order.
    """

    def __init__(self, folding, lives, order):
        self.folding = folding
        self.spots = {moment: number for number, moment in enumerate(order)}
        self.numbers = {lot[0]: number for number, lot in enumerate(folding.lots_now())}
        self.people = len(self.numbers)
        # For each moment the births right ahead of it, and the ends right behind it.
        self.births = {}
        self.ends = {}
        # For each person and word at an end of a tie: the person and the word at the other.
        self.across = {}
        self.owners = [(name, self.person_at_home(home)) for name, home in folding.facts.first_homes.items()]
        self.used_words = {word: True for lot, word in lives.names.members()}
        self.lone_word = self.new_word()
        for name, names in lives.all_ties().items():
            if len(lives.marks[name].sure_rows()) > 0:
                self.set_tie(names, lives.marks[name])
        for lot in met_lots(folding):
            self.new_owner(self.numbers[lot])
        facts = folding.facts
        self.letters = {facts.moments[row]: row for row in facts.rows if is_sent(facts.rows[row])}
        # The number and the name of the one who sends the letters of met rows.
        self.visitor = self.visitor_name = None
        if any([facts.moments[row] not in self.letters for row, place, word in facts.mets]):
            self.visitor = self.new_person()
            self.visitor_name = self.new_owner(self.visitor)

    def person_at_home(self, home):
        """The owner at this place, or someone new who has no rows and so no place."""
        return self.new_person() if home is None else self.numbers[self.folding.lot_of(home)]

    def new_person(self):
        """The number of one more person."""
        self.people += 1
        return self.people - 1

    def new_word(self):
        """A word that no one has yet."""
        number = 0
        while spelled(number, WORD_SIGNS) in self.used_words:
            number += 1
        word = spelled(number, WORD_SIGNS)
        self.used_words[word] = True
        return word

    def new_owner(self, person):
        """Makes this person one more owner; returns the name."""
        taken = [name for name, other in self.owners]
        number = 0
        while "you" + spelled(number, NAME_SIGNS) in taken:
            number += 1
        self.owners.append(("you" + spelled(number, NAME_SIGNS), person))
        return self.owners[-1][0]

    def set_tie(self, names, marks):
        """Sets a tie of these names; where only one end is known, someone new is at the other."""
        ends = [(self.numbers[lot], word) for lot, word in names]
        if len(ends) == 1:
            ends.append((self.new_person(), self.lone_word))
        one, other = ends
        self.across[one] = other
        self.across[other] = one
        runs = self.folding.facts.runs
        sure = sorted([(self.spots[row], row) for row in marks.sure_rows()])
        first, last = sure[0][1], sure[-1][1]
        # Within a run nothing happens unseen, so there the tie is living from the first row or up to the last.
        if len(marks.born) == 0:
            self.births.setdefault(runs.get(first, (first,))[0], []).append(("born", *one, *other))
        if len(marks.dead) == 0:
            self.ends.setdefault(runs.get(last, (last,))[-1], []).append(("gone", *one))

    def told_at(self, moment):
        """The events of which the rows of this moment tell."""
        rows = self.folding.facts.rows
        if moment in self.letters:
            row = self.letters[moment]
            return [("letter", owner_of(row), rows[row][0], sent_errand(rows[row]))]
        if rows[moment][0] == "calm":
            return [("calm", owner_of(moment), rows[moment][1])]
        return self.visit(self.person_at_home(place_of(moment, 0)), rows[moment])

    def visit(self, home, row):
        """The events by which a met row comes: the visitor has a tie to the next person for that moment alone."""
        goal, back = self.across[(home, row[1])]
        word = self.new_word()
        return [
            ("born", self.visitor, word, goal, word),
            ("letter", self.visitor_name, (word, back), ("meet", row[2])),
            ("gone", self.visitor, word),
        ]
