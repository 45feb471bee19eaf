"""Lives: which ties the lots and words of a folding name, and when each of them lived."""

from ownwords.groups import Groups


class Marks:
    """The rows at which a tie has its marks; several books have rows of one moment, and one of these stands for all.

    In a single book the moment of row r is counted as 2 * r, and the one directly after it as 2 * r + 1.
    """

    def __init__(self):
        self.living = []
        self.lacking = []
        self.born = []
        self.dead = []

    def sure_rows(self):
        """The rows that say that the tie lived, at them or directly after them."""
        return self.living + self.dead + self.born

    def sure_moments(self):
        """The moments at which the tie surely lived, in a single book."""
        return [2 * row for row in self.living + self.dead] + [2 * row + 1 for row in self.born]

    def has_life(self):
        """Whether all these marks can be true, in a single book."""
        sure = self.sure_moments()
        if len(sure) == 0:
            return True
        first, last = min(sure), max(sure)
        # Of two rows that made or that ended the tie, one is on the wrong side of the other.
        if any([first <= 2 * row for row in self.born]) or any([last > 2 * row for row in self.dead]):
            return False
        return not any([first <= 2 * row <= last for row in self.lacking])


class Lives:
    """The ties that the lots of a folding name, each with its names and its marks.

    A name is the first place of a lot and a word. Wishes are tuples of "lives" or "lacks", a place, a word and a row:
    they name a tie too, and mark it at the row.
    """

    def __init__(self, folding, wishes):
        self.folding = folding
        self.names = Groups()
        self.name_ties(wishes)
        self.marks = {name: Marks() for name in self.all_ties()}
        self.mark_letters()
        self.mark_lists()
        self.mark_runs()
        for kind, place, word, row in wishes:
            marks = self.marks_at(place, word)
            self.note(marks.living if kind == "lives" else marks.lacking, row)

    def note(self, noted, row):
        """Notes the moment of this row."""
        noted.append(self.folding.facts.moments[row])

    def all_ties(self):
        """The ties as a dict from the least name of each to the list of its names, in order."""
        return self.names.as_lists()

    def name_at(self, place, word):
        """The name that the lot of this place and this word make."""
        return (self.folding.lot_of(place), word)

    def is_named(self, place, word):
        """Whether the lot of this place and this word name a tie here."""
        return self.names.has(self.name_at(place, word))

    def marks_at(self, place, word):
        """The marks of the tie that the lot of this place and this word name."""
        return self.marks[self.names.least(self.name_at(place, word))]

    def marks_of(self, tie):
        """The marks of the tie of the book that has this name there."""
        place, word = self.folding.facts.ends[tie + (0,)]
        return self.marks_at(place, word)

    def name_ties(self, wishes):
        """Finds all names, and which of them name the same tie."""
        facts = self.folding.facts
        found = [(place, word) for row, place, words in facts.lists for word in words]
        found.extend([(place, word) for row, place, word in facts.losses + facts.mets])
        found.extend([(wish[1], wish[2]) for wish in wishes])
        found.extend(list(facts.ends.values()))
        for place, word in found:
            self.names.enter(self.name_at(place, word))
        for end in facts.ends:
            self.names.unite(self.folding.name_of(end[:-1] + (0,)), self.folding.name_of(end))

    def mark_letters(self):
        """Sets the marks of steps and of lost, met, tie and part letters."""
        facts = self.folding.facts
        for row, tie in facts.followed:
            self.note(self.marks_of(tie).living, row)
        for row, place, word in facts.mets:
            self.note(self.marks_at(place, word).living, row)
        for row, place, word in facts.losses:
            self.note(self.marks_at(place, word).lacking, row)
        for row, tie in facts.made.items():
            self.note(self.marks_of(tie).born, row)
        for row, tie in facts.ended.items():
            self.note(self.marks_of(tie).dead, row)

    def mark_lists(self):
        """Sets the marks of lists: a list is complete, so each name in its lot is marked by it."""
        words_at = {}
        for lot, word in self.names.members():
            words_at.setdefault(lot, []).append(word)
        for row, place, words in self.folding.facts.lists:
            for word in words_at.get(self.folding.lot_of(place), []):
                marks = self.marks_at(place, word)
                self.note(marks.living if word in words else marks.lacking, row)

    def mark_runs(self):
        """Sets the marks of runs: there a tie is made or ended by the owner's letters alone."""
        facts = self.folding.facts
        for row, tie in facts.made.items():
            if row in facts.runs and row < facts.runs[row][1]:
                self.note(self.marks_of(tie).living, row + 1)
        for row, tie in facts.ended.items():
            if row in facts.runs:
                for later in range(row + 1, facts.runs[row][1] + 1):
                    self.note(self.marks_of(tie).lacking, later)
