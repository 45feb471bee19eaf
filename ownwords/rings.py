"""Rings: whether a tree of rings and choices shows that the moments of several books cannot be put in order."""

from ownwords.forms import is_answer, is_below, is_key, is_word
from ownwords.orders import SIDES


class Sight:
    """What some lots of several books, and wishes about them, say of ties and moments."""

    def __init__(self, folding, lives, wishes):
        self.folding = folding
        self.facts = folding.facts
        self.lives = lives
        self.wishes = wishes
        # For each moment the number of its row in each book that has one.
        self.numbers = {moment: {} for moment in self.facts.moments.values()}
        for row, moment in self.facts.moments.items():
            self.numbers[moment][row[0]] = row[1]

    def tie_of(self, thing):
        """The least name of the tie that this place and this word name, or None."""
        if not isinstance(thing, tuple) or len(thing) != 2 or not is_key(thing[0]) or not is_word(thing[1]):
            return None
        place, word = thing
        if not self.folding.groups.has(place) or not self.lives.is_named(place, word):
            return None
        return self.lives.names.least(self.lives.name_at(place, word))

    def moment_of(self, thing):
        """The moment that this row is one of, or None."""
        return self.facts.moments.get(thing) if is_key(thing) else None

    def is_arrow(self, one, other, why, chosen):
        """Whether the one moment comes before the other for this reason, with these choices."""
        if not isinstance(why, tuple) or len(why) != 2:
            return False
        kind, about = why
        if kind == "book":
            return is_key(about) and self.are_in_turn(one, other, about)
        if kind == "wish":
            return is_below(about, len(self.wishes)) and self.is_wished(one, other, self.wishes[about])
        tie = self.tie_of(about)
        return tie is not None and self.is_arrow_of(tie, one, other, kind, chosen)

    def are_in_turn(self, one, other, name):
        """Whether both moments have a row in the book of this name, the one ahead of the other."""
        if name not in self.numbers[one] or name not in self.numbers[other]:
            return False
        return self.numbers[one][name] < self.numbers[other][name]

    def is_wished(self, one, other, wish):
        """Whether the wish wants the one moment before the other."""
        return wish[0] == "ahead" and one == self.facts.moments[wish[1]] and other == self.facts.moments[wish[2]]

    def is_arrow_of(self, tie, one, other, kind, chosen):
        """Whether the marks of the tie, or the side chosen for one of them, put the one moment before the other."""
        marks = self.lives.marks[tie]
        lived = marks.living + marks.dead
        if kind == "born":
            return one in marks.born and other in lived
        if kind == "dead":
            return one in marks.living and other in marks.dead and one != other
        if kind == "ahead":
            return ("ahead", tie, one) in chosen and (other in lived or (other in marks.born and one != other))
        return kind == "behind" and ("behind", tie, other) in chosen and (one in lived or one in marks.born)


def is_ring_tree(sight, thing):
    """Whether this is a tree of choices that all end in rings.

    Trees may be as deep as values get, so the parts still to look at are kept in a list.
    """
    left = [(thing, {})]
    while len(left) > 0:
        tree, chosen = left.pop()
        if is_answer(tree, "ring", 2):
            if not is_ring(sight, tree[1], chosen):
                return False
        elif is_answer(tree, "choice", 5):
            tie, moment = sight.tie_of(tree[1]), sight.moment_of(tree[2])
            if tie is None or moment not in sight.lives.marks[tie].lacking:
                return False
            for side, part in zip(SIDES, tree[3:]):
                left.append((part, {choice: True for choice in list(chosen) + [(side, tie, moment)]}))
        else:
            return False
    return True


def is_ring(sight, thing, chosen):
    """Whether this is a ring of arrows, with these choices."""
    if not isinstance(thing, tuple) or len(thing) == 0:
        return False
    moments = []
    for arrow in thing:
        if not isinstance(arrow, tuple) or len(arrow) != 3:
            return False
        one, other = sight.moment_of(arrow[0]), sight.moment_of(arrow[1])
        if one is None or other is None or not sight.is_arrow(one, other, arrow[2], chosen):
            return False
        moments.append((one, other))
    return all([moments[at - 1][1] == moments[at][0] for at in range(len(moments))])
