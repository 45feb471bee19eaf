"""A house: a history that grows event by event, with the books that its owners have so far."""

from ownwords.books import check_place
from ownwords.doings import knows
from ownwords.errors import NoName
from ownwords.foldings import folded
from ownwords.histories import Play


class House:
    """People and owners, and what happens among them."""

    def __init__(self, people, owners):
        self.play = Play(people, owners)
        self.start = (people, owners)
        self.events = []

    def do(self, event):
        """Adds an event; returns how many there are now. Raises NoHistory, and adds nothing, if it is invalid."""
        self.play.do(event)
        self.events.append(event)
        return len(self.events)

    def history(self):
        """The history so far."""
        return self.start + (tuple(self.events),)

    def book(self, name):
        """The book that the owner of this name has so far."""
        return list(self.rows_of(name))

    def lots(self, name):
        """The lots of that book."""
        return folded(self.rows_of(name), ()).lots_now()

    def known(self, name, one, other):
        """Since which row the owner knows that the two places are one person or two; or that this is open."""
        rows = self.rows_of(name)
        check_place(rows, one)
        check_place(rows, other)
        for number in range(max(one[0], other[0]), len(rows)):
            answer = knows(rows[:number + 1], one, other)
            if answer[0] != "open":
                return (answer[0], number)
        return ("open",)

    def rows_of(self, name):
        """The rows of the owner of this name; raises NoName."""
        if not self.play.is_owner(name):
            raise NoName(name)
        return self.play.books[name]
