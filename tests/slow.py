"""A slow search: whether some history has certain books, by trying out who is where and which letter goes first.

It knows nothing of lots, steps and clashes: it puts people at all places in every possible way, puts the moments in
every possible order, and looks at each tie of these people alone. Nothing here is taken from the package.
"""

from tests.naive import backs, came, is_sent, last, leaver, makes, runs


def partitions(many):
    """All ways to sort so many things, as tuples of numbers: two things of one number are together."""
    if many == 0:
        yield ()
        return
    for front in partitions(many - 1):
        for number in range(max(front, default=-1) + 2):
            yield front + (number,)


def shuffles(rows):
    """All ways to put the moments of these lists of moments into one order that keeps each list's own order."""
    left = [row for row in rows if row]
    if not left:
        yield ()
        return
    for first in {row[0] for row in left}:
        # A moment of two books may come only where it is next in both.
        if all(first not in row[1:] for row in left):
            for rest in shuffles([row[1:] if row[0] == first else row for row in left]):
                yield (first,) + rest


class Search:
    """All that can be told of some books before one knows who is where."""

    def __init__(self, books):
        self.books = books
        self.names = sorted(books)
        self.rows = [(name, r) for name in self.names for r in range(len(books[name]))]
        self.mets = {books[n][r][2]: (n, r) for n, r in self.rows if books[n][r][0] == "met"}
        self.moment = {}
        for name, r in self.rows:
            row = books[name][r]
            meets = is_sent(row) and row[1][0] == "meet"
            self.moment[name, r] = min((name, r), self.mets[row[1][1]]) if meets and row[1][1] in self.mets else (name, r)
        for name, r in self.rows:
            row = books[name][r]
            if is_sent(row) and row[1][0] == "meet" and row[1][1] in self.mets:
                self.moment[self.mets[row[1][1]]] = self.moment[name, r]
        self.far = [(n, r, k) for n, r in self.rows for k in range(1, len(backs(books[n][r])) + 1)]
        self.orders = list(shuffles([tuple(self.moment[n, r] for r in range(len(books[n]))) for n in self.names]))
        self.in_run = {n: [set(run) for run in runs(books[n])] for n in self.names}

    def people(self, wishes=()):
        """All ways to put people at the places, as dicts, that do not contradict themselves whatever the order is."""
        many = len(self.names)
        person = {(n, r, 0): self.names.index(n) for n, r in self.rows}
        for full in self.placed(person, 0, many, {}, wishes):
            if self.agrees(full, {n: at for at, n in enumerate(self.names)}):
                yield full

    def placed(self, person, at, many, partners, wishes):
        """All ways to put people at the places from this one on; many people are there so far, with these ties."""
        if at == len(self.far):
            yield dict(person)
            return
        n, r, k = place = self.far[at]
        way, _, (_, backs_here, *_) = self.books[n][r]
        for number in range(many + 1):
            here, there = (person[n, r, k - 1], way[k - 1]), (number, backs_here[k - 1])
            known = [partners.get(here, there) == there, partners.get(there, here) == here]
            if here[0] == number or not all(known):
                continue
            person[place] = number
            if self.is_wanted(person, place, wishes):
                yield from self.placed(person, at + 1, max(many, number + 1), {**partners, here: there, there: here}, wishes)
            del person[place]

    def is_wanted(self, person, place, wishes):
        """Whether the person at this place is one that the wishes allow, as far as people are known."""
        for kind, one, other, *_ in wishes:
            if kind in ("one", "two") and place in (one, other) and one in person and other in person:
                if (person[one] == person[other]) != (kind == "one"):
                    return False
        return True

    def agrees(self, person, homes):
        """Whether no row speaks against these people."""
        nobodies, others = set(), set()
        for n, r in self.rows:
            row = self.books[n][r]
            if not came(row):
                continue
            there, kind, thing = person[n, *last(self.books[n], r)], row[1][0], row[2][2]
            if kind in ("tie", "meet") and (thing == "self") != (there == homes[n]):
                return False
            if kind == "look":
                q = leaver(self.books[n], r)
                if thing != (q is not None and person[n, *last(self.books[n], q)] == there):
                    return False
            if kind == "meet" and thing is None:
                nobodies.add(there)
            if kind == "meet" and thing == "met":
                if row[1][1] not in self.mets:
                    others.add(there)
                else:
                    other, at = self.mets[row[1][1]]
                    if there != homes[other] or row[2][1][-1:] != (self.books[other][at][1],):
                        return False
        used = {homes[n] for n in self.names if self.books[n]}
        if nobodies & (others | used) or others & used:
            return False
        return self.partners(person) is not None

    def partners(self, person):
        """For each person and word the person and word at the other end of the tie, or None if that cannot be."""
        found = {}
        for n, r in self.rows:
            row = self.books[n][r]
            if not is_sent(row):
                continue
            steps = [((n, r, k), row[0][k], (n, r, k + 1), back) for k, back in enumerate(row[2][1])]
            if makes(row):
                steps.append(((n, r, 0), row[2][2][0], (n, *last(self.books[n], r)), row[2][2][1]))
            for one, word, other, back in steps:
                here, there = (person[one], word), (person[other], back)
                if here[0] == there[0] or found.setdefault(here, there) != there or found.setdefault(there, here) != here:
                    return None
        return found

    def marks(self, person, asked=()):
        """For each tie, as a set of its known ends: its living, lacking, born and dead moments."""
        partners = self.partners(person)
        found = {}

        def note(number, name, moment):
            tie = frozenset((name, partners[name]) if name in partners else (name,))
            found.setdefault(tie, ([], [], [], []))[number].append(moment)

        for kind, place, word, row in asked:
            note(0 if kind == "lives" else 1, (person[place], word), self.moment[row])
        for n, r in self.rows:
            row, moment = self.books[n][r], self.moment[n, r]
            if row[0] == "met":
                note(0, (person[n, r, 0], row[1]), moment)
            if not is_sent(row):
                continue
            for k in range(len(backs(row))):
                note(0, (person[n, r, k], row[0][k]), moment)
            there = person[n, *last(self.books[n], r)]
            if row[2][0] == "lost":
                note(1, (there, row[0][len(backs(row))]), moment)
            elif row[1][0] == "part":
                note(3, (there, row[2][1][-1]), moment)
            elif makes(row):
                note(2, (there, row[2][2][1]), moment)
        self.note_lists(person, partners, note, found)
        return found

    def note_lists(self, person, partners, note, found):
        """Notes what the lists say, of all ties that anything speaks of."""
        lists = []
        for n, r in self.rows:
            row = self.books[n][r]
            if came(row) and row[1] == ("list",):
                lists.append((person[n, *last(self.books[n], r)], row[2][2], self.moment[n, r]))
        for there, words, moment in lists:
            for word in words:
                note(0, (there, word), moment)
        for there, words, moment in lists:
            for other, word in {name for tie in found for name in tie}:
                if other == there and word not in words:
                    note(1, (there, word), moment)

    def gaps(self, order):
        """Before which of these moments something may have happened unseen, the end counting as one more."""
        found = []
        for at in range(len(order) + 1):
            around = [n for n in self.names if 0 < at < len(order) and order[at][0] == order[at - 1][0] == n]
            found.append(not any({order[at - 1][1], order[at][1]} <= run for n in around for run in self.in_run[n]))
        return found

    def can_be(self, person, order, asked=()):
        """Whether the moments can have been in this order, with these people and these words asked for."""
        at = {moment: number for number, moment in enumerate(order)}
        gaps = self.gaps(order)
        for marks in self.marks(person, asked).values():
            living, lacking, born, dead = [{at[moment] for moment in part} for part in marks]
            if len(born) > 1 or len(dead) > 1:
                return False
            if (living or born or dead) and not has_span(len(order), gaps, living, lacking, born, dead):
                return False
        return True

    def worlds(self, wishes=()):
        """All people and orders that some history with these books has, and in which the wishes are true."""
        asked = [wish for wish in wishes if wish[0] in ("lives", "lacks")]
        for person in self.people(wishes):
            if any((person[wish[1]] == person[wish[2]]) != (wish[0] == "one") for wish in wishes if wish[0] in ("one", "two")):
                continue
            for order in self.orders:
                ahead = [(self.moment[wish[1]], self.moment[wish[2]]) for wish in wishes if wish[0] == "ahead"]
                if all(order.index(one) < order.index(two) for one, two in ahead) and self.can_be(person, order, asked):
                    yield person, order

    def is_possible(self, *wishes):
        """Whether some history has these books and makes these wishes true."""
        return any(True for _ in self.worlds(wishes))


def has_span(many, gaps, living, lacking, born, dead):
    """Whether a tie with these marks can have lived at all moments from one to another, and at no others."""
    starts = [min(born) + 1] if born else [at for at in range(many) if gaps[at]]
    for start in starts:
        ends = [max(dead)] if dead else [at for at in range(start - 1, many) if gaps[at + 1]]
        for end in ends:
            span = set(range(start, end + 1))
            if (span or born) and end >= start - 1 and living <= span and not lacking & span:
                if not dead or dead <= span:
                    return True
    return False


def alone(book):
    """The search for a single book, whose owner is "me"."""
    return Search({"me": book})


def sortings_of(book):
    """All ways in which histories with this book sort its places, each as a set of sets of places."""
    found = set()
    for person, _ in alone(book).worlds():
        groups = {}
        for (_, r, k), number in person.items():
            groups.setdefault(number, set()).add((r, k))
        found.add(frozenset(frozenset(group) for group in groups.values()))
    return found
