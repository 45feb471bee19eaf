"""What DOC.md says of several books, worked out straight from its words, without care for speed.

Nothing here is taken from the package: the tests hold its answers against these.
"""

from tests import naive
from tests.helper import shown
from tests.naive import backs, came, is_sent


def rows(books):
    """All rows, each with what its book has there, in order."""
    return {(n, r): row for n in sorted(books) for r, row in enumerate(books[n])}


def places(books):
    """All places, in order."""
    return [(n, r, k) for n in sorted(books) for r, k in naive.places(books[n])]


def last(books, row):
    """The last place of a letter."""
    return (*row, len(backs(books[row[0]][row[1]])))


def ends(books):
    """All ends, each with its place and its word."""
    return {(n, *end): ((n, *place), word) for n in sorted(books) for end, (place, word) in naive.ends(books[n]).items()}


def far(end):
    """The other end of a tie."""
    return (*end[:3], 1 - end[3])


def met_row(books, row):
    """The met row with the sign of this meet row, or None."""
    sign = rows(books)[row][1][1]
    found = [other for other, told in rows(books).items() if told[0] == "met" and told[2] == sign]
    return found[0] if found else None


def meets(books):
    """All rows of meet letters that came."""
    return [row for row, told in rows(books).items() if came(told) and told[1][0] == "meet"]


def moment(books, row):
    """The least row of the moment of this row."""
    told = rows(books)[row]
    if told[0] == "met":
        return min([row] + [other for other in meets(books) if met_row(books, other) == row])
    other = met_row(books, row) if row in meets(books) else None
    return row if other is None else min(row, other)


def start(books):
    """The lots ahead of all steps."""
    return {place: (place[0], 0, 0) if place[2] == 0 else place for place in places(books)}


def all_steps(books, wishes):
    """All steps that could be allowed, whatever lots there are."""
    found = [("put", n) for n, wish in enumerate(wishes) if wish[0] == "one"]
    for name in books:
        for kind, *rest in naive.all_steps(books[name], ()):
            if kind != "tie":
                found.append((kind, (name, *rest)))
    found += [("meet", row) for row in meets(books) if met_row(books, row) is not None]
    named = ends(books)
    return found + [("tie", e, f) for e in named for f in named if e[:3] != f[:3] and named[e][1] == named[f][1]]


def merged_by(books, wishes, lots, step):
    """The two places that this possible step merges, or None if it is not allowed with these lots."""
    if step[0] == "put":
        return wishes[step[1]][1:]
    if step[0] == "meet":
        return last(books, step[1]), (*met_row(books, step[1]), 0)
    if step[0] == "look":
        name, r = step[1]
        return last(books, step[1]), last(books, (name, naive.leaver(books[name], r)))
    if step[0] == "self":
        return last(books, step[1]), (*step[1], 0)
    named = ends(books)
    if lots[named[step[1]][0]] != lots[named[step[2]][0]]:
        return None
    return named[far(step[1])][0], named[far(step[2])][0]


def after(books, wishes, steps):
    """The lots after these steps, or None if one of them is not allowed; the steps may be any value."""
    lots = start(books)
    possible = {shown(step) for step in all_steps(books, wishes)}
    if not isinstance(steps, tuple) or not all(shown(step) in possible for step in steps):
        return None
    for step in steps:
        pair = merged_by(books, wishes, lots, step)
        if pair is None:
            return None
        naive.merge(lots, *pair)
    return lots


def fold(books, wishes):
    """The lots after all steps."""
    lots = start(books)
    many = None
    while many != len(set(lots.values())):
        many = len(set(lots.values()))
        for step in all_steps(books, wishes):
            pair = merged_by(books, wishes, lots, step)
            if pair is not None:
                naive.merge(lots, *pair)
    return lots


def mentions(books, lots, wishes):
    """Each mention of a word at a lot."""
    found = {(lots[place], word) for place, word in ends(books).values()}
    found |= {(lots[wish[1]], wish[2]) for wish in wishes if wish[0] in ("lives", "lacks")}
    for name in books:
        local = {place[1:]: lot for place, lot in lots.items() if place[0] == name}
        found |= set(naive.mentions(books[name], local))
    return found


class Ties:
    """The ties that some lots name, each with its marks, which are sets of moments."""

    def __init__(self, books, lots, wishes):
        self.books, self.lots, self.wishes = books, lots, wishes
        self.named = {end: (lots[place], word) for end, (place, word) in ends(books).items()}
        self.mentioned = mentions(books, lots, wishes)
        self.of = {name: self.names_of(name) for name in self.mentioned}
        self.moments = {row: moment(books, row) for row in rows(books)}
        self.marks = {names: self.marks_of(names) for names in self.of.values()}

    def names_of(self, name):
        """All names of the tie of this name."""
        found = {name}
        many = 0
        while many != len(found):
            many = len(found)
            for end, here in self.named.items():
                if here in found:
                    found.add(self.named[far(end)])
        return frozenset(found)

    def marks_of(self, names):
        """The living, lacking, born and dead moments of the tie of these names."""
        living, lacking, born, dead = set(), set(), set(), set()
        for row, told in rows(self.books).items():
            marks = self.marks_at(names, row, told)
            for found, mark in zip((living, lacking, born, dead), marks):
                if mark:
                    found.add(self.moments[row])
        for kind, *rest in self.wishes:
            if kind in ("lives", "lacks") and (self.lots[rest[0]], rest[1]) in names:
                (living if kind == "lives" else lacking).add(self.moments[rest[2]])
        return living, lacking, born, dead

    def marks_at(self, names, row, told):
        """Whether this row makes the tie living, lacking, born and dead."""
        if told[0] == "met":
            return (self.lots[(*row, 0)], told[1]) in names, False, False, False
        goal = self.lots[last(self.books, row)]
        steps = [k for k in range(1, len(backs(told)) + 1) if self.named[(*row, k, 0)] in names]
        steps += [k for k in range(1, len(backs(told)) + 1) if self.named[(*row, k, 1)] in names]
        words = [word for lot, word in names if lot == goal]
        listed = came(told) and told[1] == ("list",)
        living = bool(steps) or (listed and any(word in told[2][2] for word in words))
        lacking = listed and any(word not in told[2][2] for word in words)
        lacking = lacking or (not came(told) and told[0][len(backs(told))] in words)
        born = naive.makes(told) and self.named[(*row, len(told[0]) + 1, 0)] in names
        return living, lacking, born, came(told) and told[1] == ("part",) and len(told[0]) in steps


def clashes(books, lots, wishes):
    """All clashes of these lots but those by a life, in any order."""
    named = ends(books)
    found = []
    for e in named:
        for f in named:
            if e[:3] != f[:3] and lots[named[e][0]] == lots[named[f][0]] and named[e][1] == named[f][1]:
                if named[far(e)][1] != named[far(f)][1]:
                    found.append(("words", e, f))
        if e[3] == 0 and lots[named[e][0]] == lots[named[far(e)][0]]:
            found.append(("loop", e[:3]))
    for name in books:
        local = {place[1:]: lot for place, lot in lots.items() if place[0] == name}
        for kind, *rest in naive.clashes(books[name], local):
            if kind in ("apart", "unleft"):
                found.append((kind, (name, *rest)))
    homes = {name: lots[(name, 0, 0)] for name in books if books[name]}
    found += [("owners", one, two) for one in homes for two in homes if one < two and homes[one] == homes[two]]
    for row in meets(books):
        met = met_row(books, row)
        if met is not None and backs(rows(books)[row])[-1:] != (rows(books)[met][1],):
            found.append(("signs", row))
    return found + keeps(books, lots, homes)


def keeps(books, lots, homes):
    """All clashes by meet letters."""
    found = []
    told = {row: rows(books)[row][2][2] for row in meets(books)}
    for row in told:
        there = lots[last(books, row)]
        for other in told:
            if row < other and there == lots[last(books, other)]:
                if row[0] == other[0] and told[row] != told[other]:
                    found.append(("keeps", row, other))
                if row[0] != other[0] and [told[row], told[other]].count(None) == 1:
                    found.append(("keeps", row, other))
        for name in homes:
            if there == homes[name]:
                alien = told[row] == "met" and (row[0] == name or met_row(books, row) is None)
                if told[row] is None or (told[row] == "self" and row[0] != name) or alien:
                    found.append(("keeps", row, name))
    return found


def is_clash(books, lots, wishes, thing):
    """Whether this is a clash of these lots."""
    if isinstance(thing, tuple) and len(thing) == 3 and thing[0] == "life":
        if shown(thing[1]) not in map(shown, places(books)) or not isinstance(thing[2], str):
            return False
        ties = Ties(books, lots, wishes)
        name = (lots[thing[1]], thing[2])
        return name in ties.of and max(len(part) for part in ties.marks[ties.of[name]][2:]) > 1
    return shown(thing) in map(shown, clashes(books, lots, wishes))


def tie_of(ties, thing):
    """The names of the tie that this value names, or None."""
    if not isinstance(thing, tuple) or len(thing) != 2 or shown(thing[0]) not in map(shown, ties.lots):
        return None
    return ties.of.get((ties.lots[thing[0]], thing[1])) if isinstance(thing[1], str) else None


def is_tree(ties, thing, chosen=()):
    """Whether this is a tree of rings and choices, below these choices."""
    if not isinstance(thing, tuple) or len(thing) not in (2, 5):
        return False
    if len(thing) == 2:
        return thing[0] == "ring" and is_ring(ties, thing[1], chosen)
    tie = tie_of(ties, thing[1])
    if thing[0] != "choice" or tie is None or shown(thing[2]) not in map(shown, ties.moments):
        return False
    now = ties.moments[thing[2]]
    if now not in ties.marks[tie][1]:
        return False
    parts = zip(("ahead", "behind"), thing[3:])
    return all(is_tree(ties, part, chosen + ((side, tie, now),)) for side, part in parts)


def is_ring(ties, thing, chosen):
    """Whether this is a ring of arrows."""
    if not isinstance(thing, tuple) or not thing or not all(isinstance(arrow, tuple) and len(arrow) == 3 for arrow in thing):
        return False
    known = set(map(shown, ties.moments))
    if not all(shown(part) in known for arrow in thing for part in arrow[:2]):
        return False
    if not all(is_arrow(ties, *arrow, chosen) for arrow in thing):
        return False
    return all(ties.moments[thing[at - 1][1]] == ties.moments[thing[at][0]] for at in range(len(thing)))


def is_arrow(ties, one, other, why, chosen):
    """Whether the arrow holds."""
    m, n = ties.moments[one], ties.moments[other]
    if not isinstance(why, tuple) or len(why) != 2:
        return False
    if why[0] == "book":
        pairs = [(p, q) for p in ties.moments for q in ties.moments if p[0] == q[0] == why[1] and p[1] < q[1]]
        return any(ties.moments[p] == m and ties.moments[q] == n for p, q in pairs)
    if why[0] == "wish":
        if shown(why[1]) not in map(shown, range(len(ties.wishes))) or ties.wishes[why[1]][0] != "ahead":
            return False
        return [ties.moments[row] for row in ties.wishes[why[1]][1:]] == [m, n]
    tie = tie_of(ties, why[1])
    if tie is None:
        return False
    living, _, born, dead = ties.marks[tie]
    return {
        "born": m in born and n in living | dead,
        "dead": m in living and n in dead and m != n,
        "ahead": ("ahead", tie, m) in chosen and (n in living | dead or (n in born and m != n)),
        "behind": ("behind", tie, n) in chosen and m in living | dead | born,
    }.get(why[0] if isinstance(why[0], str) else "", False)


def is_never(books, wishes, thing):
    """Whether this is a valid answer "never" of could."""
    if not isinstance(thing, tuple) or len(thing) != 3 or thing[0] != "never":
        return False
    lots = after(books, wishes, thing[1])
    if lots is None:
        return False
    why = thing[2]
    for number, wish in enumerate(wishes):
        if wish[0] == "two" and shown(why) == shown(("same", number)) and lots[wish[1]] == lots[wish[2]]:
            return True
    return is_clash(books, lots, wishes, why) or is_tree(Ties(books, lots, wishes), why)


def open_pairs(books, wishes):
    """How many pairs of a tie and a lacking moment are to be chosen; None if it does not come to that."""
    lots = fold(books, wishes)
    ties = Ties(books, lots, wishes)
    if clashes(books, lots, wishes) or any(len(part) > 1 for marks in ties.marks.values() for part in marks[2:]):
        return None
    if any(wish[0] == "two" and lots[wish[1]] == lots[wish[2]] for wish in wishes):
        return None
    arrows = {(ties.moments[p], ties.moments[q]) for p in ties.moments for q in ties.moments if p[0] == q[0] and p[1] < q[1]}
    arrows |= {tuple(ties.moments[row] for row in wish[1:]) for wish in wishes if wish[0] == "ahead"}
    for living, _, born, dead in ties.marks.values():
        arrows |= {(b, x) for b in born for x in living | dead} | {(x, d) for x in living for d in dead if x != d}
    pairs = [(tie, m) for tie, marks in ties.marks.items() for m in marks[1] if marks[0] | marks[2] | marks[3]]
    sides = {}
    while True:
        paths = closure(arrows)
        if any(one == other for one, other in paths):
            return None
        found = {}
        for tie, m in pairs:
            living, _, born, dead = ties.marks[tie]
            lived = living | born | dead
            if m in living | dead:
                return None
            if any((x, m) in paths for x in lived):
                found[tie, m] = "after"
            if m in born or any((m, x) in paths for x in lived):
                if (tie, m) in found:
                    return None
                found[tie, m] = "before"
        if found == sides:
            return len(pairs) - len(sides)
        sides = found
        for (tie, m), side in sides.items():
            living, _, born, dead = ties.marks[tie]
            if side == "after":
                arrows |= {(x, m) for x in living | born | dead}
            else:
                arrows |= {(m, x) for x in living | dead} | {(m, x) for x in born if x != m}


def closure(arrows):
    """All pairs of moments with a path of one or more arrows."""
    found = set(arrows)
    many = 0
    while many != len(found):
        many = len(found)
        found |= {(one, four) for one, two in found for three, four in found if two == three}
    return found
