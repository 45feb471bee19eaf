"""Histories and books by the number: many different ones, the same at each run."""

from ownwords.books import check_book
from ownwords.errors import NoBook, NoHistory
from ownwords.histories import Play

WORDS = ("a", "b", "c", "d", "e", "f", "g", "h")


class Dice:
    """Numbers that look thrown, but follow from the first one."""

    def __init__(self, seed):
        self.state = seed * 7919 + 17
        for _ in range(3):
            self.throw(2)

    def throw(self, end):
        """A number from 0 up to, but not including, the end."""
        self.state = (self.state * 6364136223846793005 + 1442695040888963407) % 2 ** 64
        return (self.state >> 33) % end

    def pick(self, things):
        """One of these."""
        return things[self.throw(len(things))]


def way_from(dice, play, person):
    """A way from this person on that mostly arrives."""
    way = []
    for _ in range(dice.pick((0, 1, 1, 2, 2, 3, 4))):
        living = sorted(play.living.get(person, {}))
        if not living or dice.throw(10) == 0:
            return tuple(way) + (dice.pick(WORDS),)
        way.append(dice.pick(living))
        person = play.living[person][way[-1]][0]
    return tuple(way)


def errand(dice):
    """Some errand."""
    kind = dice.pick(("walk", "list", "list", "leave", "look", "look", "look", "tie", "part", "meet", "meet"))
    if kind in ("leave", "look"):
        return (kind, dice.throw(3))
    if kind == "meet":
        return (kind, dice.throw(50))
    return ("tie", dice.pick(WORDS), dice.pick(WORDS)) if kind == "tie" else (kind,)


def event(dice, play, calm):
    """Some event that may be valid now."""
    kind = dice.throw(12)
    if kind < 3 or not play.living:
        return ("born", dice.throw(play.people), dice.pick(WORDS), dice.throw(play.people), dice.pick(WORDS))
    if kind == 3:
        return ("gone", dice.throw(play.people), dice.pick(WORDS))
    if kind == 4 and calm:
        return ("calm", "me", dice.throw(len(play.books["me"]) + 1))
    name = dice.pick(sorted(play.homes)) if kind < 7 else "me"
    return ("letter", name, way_from(dice, play, play.homes[name]), errand(dice))


def some_history(seed, rows=8, calm=False):
    """A history; the book of its owner "me" has about so many rows."""
    dice = Dice(seed)
    people = 2 + dice.throw(4)
    persons = list(range(people))
    names = ("bob", "me", "cat") if people > 2 and dice.throw(2) == 0 else ("bob", "me")
    owners = [(name, persons.pop(dice.throw(len(persons)))) for name in names]
    play = Play(people, tuple(owners))
    events = []
    for _ in range(rows * 8):
        if len(play.books["me"]) >= rows:
            break
        chosen = event(dice, play, calm)
        try:
            play.do(chosen)
        except NoHistory:
            continue
        events.append(chosen)
    return people, tuple(owners), tuple(events)


def changed_row(dice, row):
    """This row, or one much like it."""
    if row[0] in ("met", "calm") or dice.throw(3) > 0:
        return row
    way, sent, seen = row
    if sent[0] == "look" and seen[0] == "came" and dice.throw(2) == 0:
        return way, (sent[0], dice.throw(4)), seen[:2] + (not seen[2],)
    if sent[0] in ("meet", "tie") and seen[0] == "came" and dice.throw(2) == 0:
        things = (None, "self", "met") if sent[0] == "meet" else ("self", (dice.pick(WORDS), dice.pick(WORDS)))
        return way, sent, seen[:2] + (dice.pick(things),)
    if way and seen[1]:
        at = dice.throw(len(seen[1]))
        way = way[:at] + (dice.pick(WORDS),) + way[at + 1:]
        backs = seen[1][:at] + (dice.pick(WORDS),) + seen[1][at + 1:]
        return (way, sent, seen) if dice.throw(2) == 0 else (row[0], sent, (seen[0], backs) + seen[2:])
    return row


def changed_book(seed, book):
    """A valid book much like this one, that perhaps no history has."""
    dice = Dice(seed)
    rows = [changed_row(dice, row) for row in book]
    if len(rows) > 1 and dice.throw(2) == 0:
        at = dice.throw(len(rows) - 1)
        rows[at], rows[at + 1] = rows[at + 1], rows[at]
    try:
        check_book(rows)
    except NoBook:
        return list(book)
    return rows
