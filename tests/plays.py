"""Histories and books by the number: many different ones, the same at each run."""

from ownwords.books import check_book
from ownwords.errors import NoBook, NoHistory
from ownwords.histories import Play

WORDS = ("a", "b", "c", "d", "e", "f", "g", "h")


class Dice:
    """Numbers that look thrown, but follow from the first one."""

    def __init__(self, seed):
        self.state = seed * 7919 + 17
        for _ in range(3):
            self.throw(2)

    def throw(self, end):
        """A number from 0 up to, but not including, the end."""
        self.state = (self.state * 6364136223846793005 + 1442695040888963407) % 2 ** 64
        return (self.state >> 33) % end

    def pick(self, things):
        """One of these."""
        return things[self.throw(len(things))]


def way_from(dice, play, person):
    """A way from this person on that mostly arrives."""
    way = []
    for _ in range(dice.pick((0, 1, 1, 2, 2, 3, 4))):
        living = sorted(play.living.get(person, {}))
        if not living or dice.throw(10) == 0:
            return tuple(way) + (dice.pick(WORDS),)
        way.append(dice.pick(living))
        person = play.living[person][way[-1]][0]
    return tuple(way)


def errand(dice):
    """Some errand."""
    kind = dice.pick(("walk", "list", "list", "leave", "look", "look", "look", "tie", "part", "meet", "meet"))
    if kind in ("leave", "look"):
        return (kind, dice.throw(3))
    if kind == "meet":
        return (kind, dice.throw(50))
    return ("tie", dice.pick(WORDS), dice.pick(WORDS)) if kind == "tie" else (kind,)


def event(dice, play, calm):
    """Some event that may be valid now."""
    kind = dice.throw(12)
    if kind < 3 or not play.living:
        return ("born", dice.throw(play.people), dice.pick(WORDS), dice.throw(play.people), dice.pick(WORDS))
    if kind == 3:
        return ("gone", dice.throw(play.people), dice.pick(WORDS))
    if kind == 4 and calm:
        return ("calm", "me", dice.throw(len(play.books["me"]) + 1))
    name = dice.pick(sorted(play.homes)) if kind < 7 else "me"
    return ("letter", name, way_from(dice, play, play.homes[name]), errand(dice))


def some_history(seed, rows=8, calm=False):
    """A history; the book of its owner "me" has about so many rows."""
    dice = Dice(seed)
    people = 2 + dice.throw(4)
    persons = list(range(people))
    names = ("bob", "me", "cat") if people > 2 and dice.throw(2) == 0 else ("bob", "me")
    owners = [(name, persons.pop(dice.throw(len(persons)))) for name in names]
    play = Play(people, tuple(owners))
    events = []
    for _ in range(rows * 8):
        if len(play.books["me"]) >= rows:
            break
        chosen = event(dice, play, calm)
        try:
            play.do(chosen)
        except NoHistory:
            continue
        events.append(chosen)
    return people, tuple(owners), tuple(events)


def changed_row(dice, row):
    """This row, or one much like it."""
    if row[0] in ("met", "calm") or dice.throw(3) > 0:
        return row
    way, sent, seen = row
    if sent[0] == "look" and seen[0] == "came" and dice.throw(2) == 0:
        return way, (sent[0], dice.throw(4)), seen[:2] + (not seen[2],)
    if sent[0] in ("meet", "tie") and seen[0] == "came" and dice.throw(2) == 0:
        things = (None, "self", "met") if sent[0] == "meet" else ("self", (dice.pick(WORDS), dice.pick(WORDS)))
        return way, sent, seen[:2] + (dice.pick(things),)
    if way and seen[1]:
        at = dice.throw(len(seen[1]))
        way = way[:at] + (dice.pick(WORDS),) + way[at + 1:]
        backs = seen[1][:at] + (dice.pick(WORDS),) + seen[1][at + 1:]
        return (way, sent, seen) if dice.throw(2) == 0 else (row[0], sent, (seen[0], backs) + seen[2:])
    return row


def changed_book(seed, book):
    """A valid book much like this one, that perhaps no history has."""
    dice = Dice(seed)
    rows = [changed_row(dice, row) for row in book]
    if len(rows) > 1 and dice.throw(2) == 0:
        at = dice.throw(len(rows) - 1)
        rows[at], rows[at + 1] = rows[at + 1], rows[at]
    try:
        check_book(rows)
    except NoBook:
        return list(book)
    return rows


def calm_history(seed, rows=5):
    """A history in which mostly nothing happens unseen, and "me" makes and ends ties and is told so."""
    dice = Dice(seed)
    people = 3 + dice.throw(2)
    words = WORDS[:2 + dice.throw(4)]
    play = Play(people, (("me", 0),))
    events = []
    for number in range(60):
        if len(play.books["me"]) >= rows:
            break
        kind = dice.throw(10)
        if number < 4 + dice.throw(6) or kind == 0:
            chosen = ("born", dice.throw(people), dice.pick(words), dice.throw(people), dice.pick(words))
        elif kind == 1 and play.books["me"]:
            chosen = ("calm", "me", dice.pick((0, 0, dice.throw(len(play.books["me"])))))
        else:
            errand_now = dice.pick((("list",), ("list",), ("walk",), ("part",), ("part",), ("tie", dice.pick(words), dice.pick(words))))
            chosen = ("letter", "me", way_from(dice, play, 0), errand_now)
        try:
            play.do(chosen)
        except NoHistory:
            continue
        events.append(chosen)
    if play.books["me"] and dice.throw(3) > 0:
        last = ("calm", "me", play.calm_from["me"])
        try:
            play.do(last)
            events.append(last)
        except NoHistory:
            pass
    return people, (("me", 0),), tuple(events)


def told_row(dice, backs_at):
    """Some row of a letter; backs_at keeps the back of each way that was gone."""
    way = tuple(dice.pick(("a", "b", "x")) for _ in range(dice.pick((0, 1, 1, 1, 2))))
    backs = tuple(backs_at.setdefault(way[:step], dice.pick(("p", "x", "x", "q"))) for step in range(1, len(way) + 1))
    kind = dice.throw(8)
    if kind == 0 and way:
        return way, ("walk",), ("lost", backs[:-1])
    if kind < 4:
        words = {word for word in ("x", "y") if dice.throw(3) > 0}
        return way, ("list",), ("came", backs, tuple(sorted(words | set(backs[-1:]))))
    if kind < 6 and way:
        return way, ("part",), ("came", backs, None)
    if kind == 6 and way:
        return way, ("tie",), ("came", backs, (dice.pick(("x", "y", "z")), dice.pick(("x", "y"))))
    return way, ("walk",), ("came", backs, None)


def told_book(seed, rows=4):
    """A book with a calm row at its end that no one played, and that may have no history."""
    dice = Dice(seed)
    backs_at = {}
    book = [told_row(dice, backs_at) for _ in range(rows)]
    return book + [("calm", dice.pick((0, 0, 1)))]


def changed_lists_book(seed):
    """A book in which lists tell that ties ended or began in a run, and letters between that may have done it."""
    dice = Dice(seed)
    words = ("x", "y", "z")[:2 + dice.throw(2)]
    before = tuple(sorted({word for word in words if dice.throw(3) > 0} | {"p"}))
    after = tuple(sorted({word for word in words if dice.throw(3) == 0} | {"p"}))
    rows = [(("a",), ("list",), ("came", ("p",), before))]
    backs = {}
    for _ in range(1 + dice.throw(2)):
        far = dice.pick(("b", "c"))
        back = backs.setdefault(far, dice.pick(("p", "q", "q", "r")))
        if dice.throw(3) == 0:
            rows.append(((far,), ("tie",), ("came", (back,), (dice.pick(words), dice.pick(words)))))
        elif dice.throw(4) == 0:
            rows.append(((dice.pick(words),), ("part",), ("came", (dice.pick(words),), None)))
        else:
            rows.append(((far, dice.pick(words)), ("part",), ("came", (back, dice.pick(words)), None)))
    rows.append((("a",), ("list",), ("came", ("p",), after)))
    if dice.throw(3) == 0:
        rows.insert(dice.throw(len(rows)), (("b",), ("list",), ("came", (backs.get("b", "q"),), tuple(sorted({*words[1:], backs.get("b", "q")})))))
    return rows + [("calm", 0)]


def shared_history(seed, rows=5):
    """A history of two or three owners who meet each other much; their books have about so many rows together."""
    dice = Dice(seed)
    people = 3 + dice.throw(2)
    names = ("ann", "bob", "cat")[:2 + (dice.throw(3) == 0)]
    words = WORDS[:2 + dice.throw(3)]
    play = Play(people, tuple((name, number) for number, name in enumerate(names)))
    events = []
    for number in range(60):
        if sum(len(play.books[name]) for name in names) >= rows:
            break
        kind = dice.throw(9)
        if number < 5 or kind == 0:
            chosen = ("born", dice.throw(people), dice.pick(words), dice.throw(people), dice.pick(words))
        elif kind == 1:
            chosen = ("gone", dice.throw(people), dice.pick(words))
        else:
            name = dice.pick(names)
            way = way_from(dice, play, play.homes[name])
            if dice.throw(4) == 0:
                way = (dice.pick(words),)
            kinds = (("meet", dice.throw(90)), ("meet", dice.throw(90)), ("meet", number), ("list",), ("list",), ("walk",), ("part",))
            sent = dice.pick(kinds + (("tie", dice.pick(words), dice.pick(words)), ("leave", dice.throw(2)), ("look", dice.throw(2))))
            chosen = ("letter", name, way[:3], sent)
        try:
            play.do(chosen)
        except NoHistory:
            continue
        events.append(chosen)
    return people, tuple((name, number) for number, name in enumerate(names)), tuple(events)


def some_wishes(dice, places, rows, many):
    """Wishes about these places and rows of several books."""
    found = []
    for _ in range(many):
        kind = dice.pick(("one", "two", "lives", "lacks", "lives", "lacks", "ahead", "ahead"))
        if kind in ("one", "two"):
            found.append((kind, dice.pick(places), dice.pick(places)))
        elif kind == "ahead":
            found.append((kind, dice.pick(rows), dice.pick(rows)))
        else:
            found.append((kind, dice.pick(places), dice.pick(WORDS[:4]), dice.pick(rows)))
    return found


def neighbours_books(seed, rows=3):
    """Two books whose owners look at one neighbour's ties again and again; and a wish that makes one of both neighbours."""
    dice = Dice(seed)
    books = {}
    for name, back in (("ann", "p"), ("bob", "q")):
        books[name] = [(("a",), ("walk",), ("came", (back,), None))]
        for _ in range(rows - 1):
            kind = dice.throw(6)
            words = tuple(sorted({word for word in ("x", "y", "z") if dice.throw(2) == 0} | {back}))
            word = dice.pick(("x", "x", "y"))
            if kind < 2:
                books[name].append((("a",), ("list",), ("came", (back,), words)))
            elif kind == 2:
                books[name].append((("a", word), ("walk",), ("lost", (back,))))
            elif kind == 3:
                books[name].append((("a", word), ("walk",), ("came", (back, "1"), None)))
            elif kind == 4:
                books[name].append((("a", word), ("part",), ("came", (back, "1"), None)))
            else:
                books[name].append((("a",), ("tie",), ("came", (back,), (dice.pick(("c", "d")), word))))
    return books, ("one", ("ann", 0, 1), ("bob", 0, 1))


def between_books(seed):
    """Three books whose owners list one neighbour's words, and wishes that make one of all neighbours.

    What was between what is mostly open, so that there is much to choose.
    """
    dice = Dice(seed)
    owners = [("ann", "p"), ("bob", "q"), ("cat", "r")] + [(name, back) for name, back in (("ann", "p"), ("bob", "q")) if dice.throw(4) == 0]
    words = [{"p", "q", "r"} for _ in owners]
    for word in ("u", "v", "x", "y")[:3 + dice.throw(2)]:
        missing = [dice.throw(len(owners)) for _ in range(1 + (dice.throw(4) == 0))]
        for number, listed in enumerate(words):
            listed |= {word} if number not in missing else set()
    books = {name: [] for name, back in owners}
    for (name, back), listed in zip(owners, words):
        books[name].append((("a",), ("list",), ("came", (back,), tuple(sorted(listed)))))
    return books, [("one", ("ann", 0, 1), (name, 0, 1)) for name in ("bob", "cat")]
