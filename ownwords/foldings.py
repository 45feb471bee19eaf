"""Foldings: the places of a book, merged step by step into lots."""

from ownwords.books import check_book, check_place
from ownwords.facts import facts_of
from ownwords.forms import is_below, is_key
from ownwords.groups import Groups

STEP_FORMS = (("tie", 3), ("look", 2), ("self", 2), ("meet", 2), ("put", 2))


def lots(book, *, put=()):
    """The lots of the book after all steps, in order, each as the list of its places."""
    return folded(book, put).lots_now()


def lots_behind(book, steps, *, put=()):
    """The lots of the book after these steps alone."""
    folding = unfolded(book, put)
    for step in steps:
        folding.take(step)
    return folding.lots_now()


def are_steps(book, thing, *, put=()):
    """Whether this is a tuple of steps each of which is allowed after the ones before it."""
    return unfolded(book, put).takes(thing)


def unfolded(book, put):
    """The folding of the book ahead of all steps; raises NoBook and NoPlace."""
    check_book(book)
    for one, other in put:
        check_place(book, one)
        check_place(book, other)
    return Folding(facts_of(book), list(put))


def folded(book, put):
    """The folding of the book after all steps; raises NoBook and NoPlace."""
    folding = unfolded(book, put)
    folding.take_all()
    return folding


def other_end(end):
    """The other end of the tie of this end."""
    return end[:-1] + (1 - end[-1],)


class Folding:
    """The lots of the places that some facts tell of, and the steps that merged them.

    The pairs are those that put steps put together; a pair may also be None, and then its number is no such step.
    """

    def __init__(self, facts, pairs):
        self.facts = facts
        self.pairs = pairs
        self.steps = []
        self.groups = Groups()
        for place in facts.places:
            self.groups.enter(place)
        for home, first in facts.homes.items():
            self.groups.unite(first, home)

    def twin(self):
        """A folding with the same lots, which can go on on its own and has no steps so far."""
        other = Folding(self.facts, self.pairs)
        other.groups = self.groups.twin()
        return other

    def lot_of(self, place):
        """The first place of the lot of this place, by which the lot is known."""
        return self.groups.least(place)

    def are_one(self, one, other):
        """Whether the two places are in the same lot."""
        return self.lot_of(one) == self.lot_of(other)

    def name_of(self, end):
        """The lot and the word of this end, which name its tie."""
        place, word = self.facts.ends[end]
        return (self.lot_of(place), word)

    def lots_now(self):
        """The lots as lists of places, in order."""
        return list(self.groups.as_lists().values())

    def takes(self, thing):
        """Takes the steps; returns whether this is a tuple of steps each of which is allowed."""
        return isinstance(thing, tuple) and all([self.take(step) for step in thing])

    def take(self, step):
        """Takes the step if it is allowed; returns whether it is."""
        merged = self.merged_by(step)
        if merged is None:
            return False
        if self.groups.unite(merged[0], merged[1]):
            self.steps.append(step)
        return True

    def merged_by(self, step):
        """The two places that the step merges, or None if this is no step that is allowed now."""
        if not isinstance(step, tuple) or len(step) == 0 or (step[0], len(step)) not in STEP_FORMS:
            return None
        if step[0] == "put":
            return self.pairs[step[1]] if is_below(step[1], len(self.pairs)) else None
        if not is_key(step[1]):
            return None
        if step[0] == "look":
            return self.facts.found.get(step[1])
        if step[0] == "self":
            return self.facts.selves.get(step[1])
        if step[0] == "meet":
            return self.facts.joined.get(step[1])
        return self.merged_by_ties(step[1], step[2])

    def merged_by_ties(self, one, other):
        """The places at the other ends of two ties that are the same tie by these ends, or None."""
        if not self.are_ends(one, other) or self.name_of(one) != self.name_of(other):
            return None
        return (self.facts.ends[other_end(one)][0], self.facts.ends[other_end(other)][0])

    def are_ends(self, one, other):
        """Whether these are ends of two different ties."""
        if not is_key(one) or not is_key(other):
            return False
        return one in self.facts.ends and other in self.facts.ends and one[:-1] != other[:-1]

    def take_all(self):
        """Takes steps until none is left that merges two lots."""
        for number in range(len(self.pairs)):
            self.take(("put", number))
        for row in self.facts.found:
            self.take(("look", row))
        for row in self.facts.selves:
            self.take(("self", row))
        for row in self.facts.joined:
            self.take(("meet", row))
        many = -1
        while many < len(self.steps):
            many = len(self.steps)
            self.take_ties()

    def take_ties(self):
        """Takes the steps of all ties that are the same by the lots of the moment."""
        firsts = {}
        for end in self.facts.ends:
            first = firsts.setdefault(self.name_of(end), end)
            self.take(("tie", first, end))
