"""What DOC.md says of lots, clashes and lives, worked out straight from its words, without care for speed.

Nothing here is taken from the package: the tests hold its answers against these.
"""


def is_sent(row):
    """Whether this is the row of a letter."""
    return row[0] not in ("met", "calm")


def came(row):
    """Whether this is the row of a letter that came."""
    return is_sent(row) and row[2][0] == "came"


def backs(row):
    """The backs of a row."""
    return row[2][1] if is_sent(row) else ()


def places(book):
    """All places, in order."""
    return [(r, k) for r, row in enumerate(book) for k in range(len(backs(row)) + 1)]


def last(book, r):
    """The last place of a letter."""
    return (r, len(backs(book[r])))


def makes(row):
    """Whether this row made a tie."""
    return came(row) and row[1] == ("tie",) and row[2][2] != "self"


def ends(book):
    """All ends, in order, each with its place and its word."""
    found = {}
    for r, row in enumerate(book):
        for k in range(1, len(backs(row)) + 1):
            found[(r, k, 0)] = ((r, k - 1), row[0][k - 1])
            found[(r, k, 1)] = ((r, k), row[2][1][k - 1])
        if makes(row):
            found[(r, len(row[0]) + 1, 0)] = ((r, 0), row[2][2][0])
            found[(r, len(row[0]) + 1, 1)] = (last(book, r), row[2][2][1])
    return found


def far(end):
    """The other end of a tie."""
    return (end[0], end[1], 1 - end[2])


def leaver(book, r):
    """The earlier row whose letter came and left the mark of this look, or None."""
    for q in range(r):
        if came(book[q]) and book[q][1] == ("leave", book[r][1][1]):
            return q
    return None


def looks(book, seen):
    """The rows of looks that came and returned this."""
    return [r for r, row in enumerate(book) if came(row) and row[1][0] == "look" and row[2][2] is seen]


def start(book):
    """The lots ahead of all steps, as a dict from places to numbers."""
    return {place: 0 if place[1] == 0 else number for number, place in enumerate(places(book))}


def merge(lots, one, other):
    """Merges the lots of two places."""
    old, new = lots[one], lots[other]
    for place in lots:
        if lots[place] == old:
            lots[place] = new


def all_steps(book, pairs):
    """All steps that could be allowed, whatever lots there are."""
    found = [("put", n) for n in range(len(pairs))]
    found += [("look", r) for r in looks(book, True) if leaver(book, r) is not None]
    found += [("self", r) for r, row in enumerate(book) if came(row) and row[2][2] == "self"]
    named = ends(book)
    return found + [("tie", e, f) for e in named for f in named if e[:2] != f[:2] and named[e][1] == named[f][1]]


def merged_by(book, pairs, lots, step):
    """The two places that this possible step merges, or None if it is not allowed with these lots."""
    if step[0] == "put":
        return pairs[step[1]]
    if step[0] == "look":
        return last(book, step[1]), last(book, leaver(book, step[1]))
    if step[0] == "self":
        return last(book, step[1]), (step[1], 0)
    named = ends(book)
    e, f = step[1], step[2]
    if lots[named[e][0]] != lots[named[f][0]]:
        return None
    return named[far(e)][0], named[far(f)][0]


def fold(book, pairs=()):
    """The lots after all steps."""
    lots = start(book)
    steps = all_steps(book, pairs)
    many = None
    while many != len(set(lots.values())):
        many = len(set(lots.values()))
        for step in steps:
            pair = merged_by(book, pairs, lots, step)
            if pair is not None:
                merge(lots, pair[0], pair[1])
    return lots


def after(book, pairs, steps):
    """The lots after these steps, or None if one of them is not allowed."""
    lots = start(book)
    possible = all_steps(book, pairs)
    for step in steps:
        pair = merged_by(book, pairs, lots, step) if step in possible else None
        if pair is None:
            return None
        merge(lots, pair[0], pair[1])
    return lots


def as_lists(lots):
    """The lots as lists of places."""
    found = {}
    for place in sorted(lots):
        found.setdefault(lots[place], []).append(place)
    return list(found.values())


def runs(book):
    """The runs, as lists of rows."""
    found = []
    for j, row in enumerate(book):
        if row[0] == "calm":
            span = set(range(row[1], j + 1))
            for run in [run for run in found if run & span]:
                found.remove(run)
                span |= run
            found.append(span)
    return [sorted(run) for run in found]


def mentions(book, lots):
    """Each mention of a word at a lot."""
    found = [(lots[place], word) for place, word in ends(book).values()]
    for r, row in enumerate(book):
        if came(row) and row[1] == ("list",):
            found += [(lots[last(book, r)], word) for word in row[2][2]]
        if is_sent(row) and not came(row):
            found.append((lots[last(book, r)], row[0][len(backs(row))]))
        if row[0] == "met":
            found.append((lots[(r, 0)], row[1]))
    return found


def names_of(book, lots, place, word):
    """All names of the tie that the lot of this place and this word name."""
    found = {(lots[place], word)}
    named = ends(book)
    many = 0
    while many != len(found):
        many = len(found)
        for end in named:
            if (lots[named[end][0]], named[end][1]) in found:
                there, other = named[far(end)]
                found.add((lots[there], other))
    return found


def marks_of(book, lots, names):
    """The living, lacking, born and dead marks of the tie of these names, as sets of rows."""
    living, lacking, born, dead = set(), set(), set(), set()
    named = {end: (lots[place], word) for end, (place, word) in ends(book).items()}
    for r, row in enumerate(book):
        steps = [k for k in range(1, len(backs(row)) + 1) if named[(r, k, 0)] in names or named[(r, k, 1)] in names]
        if steps or (row[0] == "met" and (lots[(r, 0)], row[1]) in names):
            living.add(r)
        if steps and came(row) and row[1] == ("part",) and steps[-1] == len(row[0]):
            dead.add(r)
        if makes(row) and named[(r, len(row[0]) + 1, 0)] in names:
            born.add(r)
        if is_sent(row) and not came(row) and (lots[last(book, r)], row[0][len(backs(row))]) in names:
            lacking.add(r)
        if came(row) and row[1] == ("list",):
            words = [word for lot, word in names if lot == lots[last(book, r)]]
            living.update([r for word in words if word in row[2][2]])
            lacking.update([r for word in words if word not in row[2][2]])
    for run in runs(book):
        living.update([r + 1 for r in born if r in run and r + 1 in run])
        lacking.update([q for r in dead if r in run for q in run if q > r])
    return living, lacking, born, dead


def has_life(marks):
    """Whether a tie with these marks has a life."""
    living, lacking, born, dead = marks
    # Half a row later is the moment directly after the row.
    sure = [r for r in living | dead] + [r + 0.5 for r in born]
    if len(born) > 1 or len(dead) > 1:
        return False
    if any(m <= r for m in sure for r in born) or any(m > r for m in sure for r in dead):
        return False
    return not any(one <= r <= two for one in sure for two in sure for r in lacking)


def word_answer(book, place, word, row):
    """The first word of what word_at answers, for a book that has a history."""
    lots = fold(book)
    living, lacking, born, dead = marks_of(book, lots, names_of(book, lots, place, word))
    sure = [r for r in living | dead] + [r + 0.5 for r in born]
    if row in sure or (any(m < row for m in sure) and any(m > row for m in sure)):
        return "yes"
    between = [r for r in lacking for m in sure if row < r < m or m < r < row]
    if row in lacking or between or any(row <= r for r in born) or any(row > r for r in dead):
        return "no"
    return "open"


def clashes(book, lots):
    """All clashes of these lots, in the order of their kinds; of life clashes only those by the least names."""
    named = ends(book)
    lot = {end: lots[named[end][0]] for end in named}
    same = [(e, f) for e in named for f in named if e[:2] != f[:2] and lot[e] == lot[f] and named[e][1] == named[f][1]]
    found = [("words", e, f) for e, f in sorted(same) if e < f and named[far(e)][1] != named[far(f)][1]]
    found += [("loop", e[:2]) for e in named if e[2] == 0 and lot[e] == lot[far(e)]]
    for r in looks(book, False):
        if leaver(book, r) is not None and lots[last(book, r)] == lots[last(book, leaver(book, r))]:
            found.append(("apart", r))
    found += [("unleft", r) for r in looks(book, True) if leaver(book, r) is None]
    return found + keeps(book, lots) + lifeless(book, lots)


def keeps(book, lots):
    """All clashes by meet letters, in order."""
    found = []
    meets = [r for r, row in enumerate(book) if came(row) and row[1][0] == "meet"]
    for r in meets:
        if book[r][2][2] != "self" and lots[last(book, r)] == lots[(r, 0)]:
            found.append(("keeps", r, None))
        for q in meets:
            if r < q and lots[last(book, r)] == lots[last(book, q)] and book[r][2][2] != book[q][2][2]:
                found.append(("keeps", r, q))
    return found


def lifeless(book, lots):
    """The clashes by ties without a life, each by the least place and word that name the tie, in order."""
    found = []
    mentioned = set(mentions(book, lots))
    for place in sorted(lots):
        for name, word in sorted(mentioned):
            if name == lots[place] and not has_life(marks_of(book, lots, names_of(book, lots, place, word))):
                found.append((place, word))
    least = []
    for place, word in sorted(found):
        if not any((lots[place], word) in names_of(book, lots, at, other) for at, other in least):
            least.append((place, word))
    return [("life", place, word) for place, word in least]


def is_life_clash(book, lots, place, word):
    """Whether this place and this word are a clash by a tie without a life."""
    return not has_life(marks_of(book, lots, names_of(book, lots, place, word)))
