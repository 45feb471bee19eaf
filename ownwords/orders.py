"""Orders: which moments of several books come before which, and what follows from that.

Moments are known by the least of their rows. A case is a moment at which a tie is lacking: it may lie ahead of the life
of the tie, or behind it.
"""

from ownwords.errors import TooMany

MOST_CASES = 6
SIDES = ("ahead", "behind")


class Order:
    """Arrows among moments, and all that they lead to."""

    def __init__(self, moments):
        self.moments = moments
        # For each moment those to which one arrow leads, each with the reason of the arrow.
        self.arrows = {moment: {} for moment in moments}
        # For each moment those to which one arrow or more lead.
        self.later = {moment: {} for moment in moments}
        # A ring of arrows, as soon as there is one.
        self.ring = None

    def twin(self):
        """An order with the same arrows, which can go on on its own."""
        other = Order(self.moments)
        for moment in self.moments:
            other.arrows[moment] = {found: self.arrows[moment][found] for found in self.arrows[moment]}
            other.later[moment] = {found: True for found in self.later[moment]}
        other.ring = self.ring
        return other

    def is_before(self, one, other):
        """Whether a path of arrows leads from one moment to the other."""
        return other in self.later[one]

    def draw(self, one, other, why):
        """Draws an arrow for this reason, if it tells anything new."""
        if self.is_before(one, other):
            return
        if self.ring is None and (one == other or self.is_before(other, one)):
            self.ring = self.closed_by(one, other, why)
        self.arrows[one][other] = why
        later = [other] + list(self.later[other])
        sooner = [moment for moment in self.moments if moment == one or one in self.later[moment]]
        for moment in sooner:
            for found in later:
                self.later[moment][found] = True

    def closed_by(self, one, other, why):
        """The ring that this arrow makes of a path back, as short as can be."""
        return ((one, other, why),) + self.path(other, one)

    def path(self, start, goal):
        """A shortest path of arrows from one moment to another that it leads to; none if they are the same."""
        steps = {start: ()}
        front = [start]
        while goal not in steps:
            ahead = []
            for moment in front:
                for found, why in self.arrows[moment].items():
                    if found not in steps:
                        steps[found] = steps[moment] + ((moment, found, why),)
                        ahead.append(found)
            front = ahead
        return steps[goal]

    def line(self):
        """All moments, one after the other, so that all arrows lead onwards."""
        left = list(self.moments)
        found = []
        while len(left) > 0:
            following = [moment for other in left for moment in self.later[other]]
            found.append([moment for moment in left if moment not in following][0])
            left.remove(found[-1])
        return found


class Case:
    """A moment at which a tie is lacking, with the arrows of either side."""

    def __init__(self, tie, moment, marks):
        self.tie_name = tie
        self.moment = moment
        lived = marks.living + marks.dead
        # A tie may still be lacking at the moment at which it is made.
        self.aims = lived + [born for born in marks.born if born != moment]
        self.sources = lived + marks.born

    def arrows_of(self, side):
        """The arrows that hold if this side is chosen."""
        why = (side, self.tie_name)
        if side == "ahead":
            return [(self.moment, aim, why) for aim in self.aims]
        return [(source, self.moment, why) for source in self.sources]

    def ring_of(self, order, side):
        """A ring that there would be at once if this side were chosen, as short as can be, or None."""
        rings = []
        for one, other, why in self.arrows_of(side):
            if one == other or order.is_before(other, one):
                rings.append(order.closed_by(one, other, why))
        return min(rings, key=len) if len(rings) > 0 else None

    def is_told(self, order, side):
        """Whether this side holds already, whatever is chosen."""
        return all([order.is_before(one, other) for one, other, why in self.arrows_of(side)])


def first_order(facts, lives, wishes):
    """The arrows that exist from the start."""
    order = Order(sorted({facts.moments[row] for row in facts.rows}))
    for one in facts.rows:
        for other in facts.rows:
            if one[0] == other[0] and one[1] < other[1]:
                order.draw(facts.moments[one], facts.moments[other], ("book", one[0]))
    for number, wish in enumerate(wishes):
        if wish[0] == "ahead":
            order.draw(facts.moments[wish[1]], facts.moments[wish[2]], ("wish", number))
    for tie in lives.all_ties():
        marks = lives.marks[tie]
        for one in marks.born:
            for other in marks.living + marks.dead:
                order.draw(one, other, ("born", tie))
        for one in marks.living:
            for other in marks.dead:
                if one != other:
                    order.draw(one, other, ("dead", tie))
    return order


def all_cases(lives):
    """The cases of all ties that have marks other than lacking, each once."""
    found = []
    for tie in lives.all_ties():
        marks = lives.marks[tie]
        if len(marks.sure_rows()) > 0:
            found.extend([Case(tie, moment, marks) for moment in sorted(set(marks.lacking))])
    return found


def settled(order, cases, most):
    """A tree that shows that no choice of sides is free of rings, what it used, and None; or None, and such an order.

    What it used are the choices that its rings rest on. Raises TooMany if more cases than that are left to choose.
    """
    forced, left = required(order, cases)
    if order.ring is not None:
        tree, used = ("ring", order.ring), choices_in(order.ring)
    elif len(left) > most:
        raise TooMany(len(left))
    elif len(left) == 0:
        return (None, {}, order)
    else:
        parts = []
        for side in SIDES:
            tree, used, free = settled(with_side(order, left[0], side), left[1:], most)
            if tree is None:
                return (None, {}, free)
            parts.append((tree, used))
        tree, used = chosen_tree(left[0], parts[0], parts[1])
    for case, side, ring in reversed(forced):
        other = (("ring", ring), choices_in(ring))
        parts = [other, (tree, used)] if side == "behind" else [(tree, used), other]
        tree, used = chosen_tree(case, parts[0], parts[1])
    return (tree, used, None)


def required(order, cases):
    """Adds the arrows of all sides that are required; returns these choices and the cases that are left.

    Each choice comes with the ring that the other side would make; those that tell nothing new are left out.
    """
    forced = []
    left = cases
    many = None
    while order.ring is None and many != len(left):
        many = len(left)
        free = []
        for case in left:
            rings = [case.ring_of(order, side) for side in SIDES]
            if rings[0] is None and rings[1] is None:
                free.append(case)
                continue
            side, ring = ("behind", rings[0]) if rings[0] is not None else ("ahead", rings[1])
            if not case.is_told(order, side):
                forced.append((case, side, ring))
                take_side(order, case, side)
            if order.ring is not None:
                break
        left = free
    return forced, left


def take_side(order, case, side):
    """Adds the arrows of this side of the case."""
    for one, other, why in case.arrows_of(side):
        order.draw(one, other, why)


def with_side(order, case, side):
    """An order with the arrows of this side of the case as well."""
    other = order.twin()
    take_side(other, case, side)
    return other


def choices_in(ring):
    """The choices that a ring rests on, each as the side, the tie and the lacking moment."""
    found = {}
    for one, other, why in ring:
        if why[0] in SIDES:
            found[(why[0], why[1], one if why[0] == "ahead" else other)] = True
    return found


def chosen_tree(case, ahead, behind):
    """The tree that chooses a side of the case, and what it used; a part that does not rest on its side is enough."""
    for side, part in (("ahead", ahead), ("behind", behind)):
        if (side, case.tie_name, case.moment) not in part[1]:
            return part
    own = [(side, case.tie_name, case.moment) for side in SIDES]
    used = {choice: True for part in (ahead, behind) for choice in part[1] if choice not in own}
    return ("choice", case.tie_name, case.moment, ahead[0], behind[0]), used
