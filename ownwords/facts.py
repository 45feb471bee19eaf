"""What a valid book tells, sorted out by kind."""

from ownwords.books import backs_of, is_sent, made_tie


def run_ends(book):
    """For each row of a run of the book, the last row of that run."""
    runs = []
    for number, row in enumerate(book):
        if row[0] == "calm":
            first = row[1]
            while len(runs) > 0 and runs[-1][1] >= first:
                first = min(first, runs.pop()[0])
            runs.append((first, number))
    return {number: last for first, last in runs for number in range(first, last + 1)}


class Facts:
    """The facts of a valid book; rows, places, ties and ends are named as in the answers about it."""

    def __init__(self, book):
        self.places = []
        self.homes = []
        # Each end with its place and its word; the ends stand in order.
        self.ends = {}
        # The rows and ties of all steps that letters took.
        self.followed = []
        # The row, the place and the words of each list; the row, the place and the word of each loss and met row.
        self.lists = []
        self.losses = []
        self.mets = []
        # For each mark that a letter left so far: where.
        self.left = {}
        # For each look: its last place and that of the letter that left its mark, where an earlier one did.
        self.found = {}
        self.missed = {}
        self.unleft = {}
        # For each letter that came back with "self": its last place and its first.
        self.selves = {}
        # For each meet letter that came: its first place, its last place and what it returned.
        self.meets = {}
        # For each row that made or ended a tie: which.
        self.made = {}
        self.ended = {}
        self.run_ends = run_ends(book)
        for number, row in enumerate(book):
            self.note_row(number, row)

    def note_row(self, number, row):
        """Notes what a row tells."""
        self.homes.append((number, 0))
        self.places.extend([(number, step) for step in range(len(backs_of(row)) + 1)])
        if row[0] == "met":
            self.mets.append((number, (number, 0), row[1]))
        elif is_sent(row):
            self.note_steps(number, row[0], row[2][1])
            self.note_tie(number, row)
            if row[2][0] == "came":
                self.note_errand(number, (number, len(row[0])), row[1], row[2][2])
            else:
                taken = len(row[2][1])
                self.losses.append((number, (number, taken), row[0][taken]))

    def note_steps(self, number, way, backs):
        """Notes the ties that a letter went along."""
        for step, back in enumerate(backs, 1):
            self.ends[(number, step, 0)] = ((number, step - 1), way[step - 1])
            self.ends[(number, step, 1)] = ((number, step), back)
            self.followed.append((number, (number, step)))

    def note_tie(self, number, row):
        """Notes the tie that a letter made, if it made one."""
        if made_tie(row):
            goal = len(row[0])
            self.ends[(number, goal + 1, 0)] = ((number, 0), row[2][2][0])
            self.ends[(number, goal + 1, 1)] = ((number, goal), row[2][2][1])
            self.made[number] = (number, goal + 1)

    def note_errand(self, number, goal, errand, thing):
        """Notes what a letter that came brought back, or did, at its last place."""
        kind = errand[0]
        if kind == "list":
            self.lists.append((number, goal, thing))
        elif kind == "leave":
            self.left[errand[1]] = goal
        elif kind == "look":
            self.note_look(number, goal, errand[1], thing)
        elif kind == "part":
            # The last tie followed has the same numbers as the last place.
            self.ended[number] = goal
        elif kind == "meet":
            self.meets[number] = ((number, 0), goal, thing)
        if thing == "self":
            self.selves[number] = (goal, (number, 0))

    def note_look(self, number, goal, mark, found):
        """Notes what a look saw, against where its mark was left so far."""
        if mark in self.left:
            noted = self.found if found else self.missed
            noted[number] = (goal, self.left[mark])
        elif found:
            self.unleft[number] = True
