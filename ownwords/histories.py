"""Histories: what happens among the people, event by event, and the books that the owners get of it."""

from ownwords.books import check_place
from ownwords.errors import NoHistory, NoName
from ownwords.forms import is_below, is_errand, is_name, is_way, is_whole, is_word

EVENT_FORMS = (("born", 5), ("gone", 3), ("letter", 4), ("calm", 3))


def played(history):
    """The books of the history: a dict from the names of the owners, in their order."""
    return play_of(history).books


def person_at(history, name, place):
    """The person at a place of this owner's book."""
    play = play_of(history)
    if not play.is_owner(name):
        raise NoName(name)
    check_place(play.books[name], place)
    number, step = place
    return play.stops[name][number][step]


def play_of(history):
    """The play of a whole history; raises NoHistory."""
    if not isinstance(history, tuple) or len(history) != 3:
        raise NoHistory(None)
    people, owners, events = history
    play = Play(people, owners)
    if not isinstance(events, tuple):
        raise NoHistory(None)
    for event in events:
        play.do(event)
    return play


def are_owners(people, owners):
    """Whether these can be the number of people and the owners of a history."""
    if not is_whole(people) or people < 1 or not isinstance(owners, tuple):
        return False
    if not all(is_owner_entry(owner, people) for owner in owners):
        return False
    names = len({owner[0] for owner in owners})
    persons = len({owner[1] for owner in owners})
    return names == persons == len(owners)


def is_owner_entry(thing, people):
    """Whether this is a name and a person."""
    return isinstance(thing, tuple) and len(thing) == 2 and is_name(thing[0]) and is_below(thing[1], people)


class Play:
    """The people, their ties, and the books of the owners, after the events done so far."""

    def __init__(self, people, owners):
        if not are_owners(people, owners):
            raise NoHistory(None)
        self.people = people
        self.many = 0
        self.homes = {name: person for name, person in owners}
        self.books = {name: [] for name, person in owners}
        # For each row of each book: the people whom its letter was at, from its owner on.
        self.stops = {name: [] for name, person in owners}
        # For each owner the first row since which nothing happened unseen.
        self.calm_from = {name: 0 for name, person in owners}
        # For each person the words of the living ties, each with the other person and that person's word.
        self.living = {}
        self.used = {}
        self.marks = {}
        self.signs = {}

    def do(self, event):
        """Carries out the event; raises NoHistory, and changes nothing, if it is invalid."""
        if not self.may_happen(event):
            raise NoHistory(self.many)
        if event[0] == "born":
            self.bear(event[1], event[2], event[3], event[4], None)
        elif event[0] == "gone":
            self.end(event[1], event[2], None)
        elif event[0] == "letter":
            self.send(event[1], event[2], event[3])
        else:
            self.add_row(event[1], ("calm", event[2]), (self.homes[event[1]],))
        self.many += 1

    def may_happen(self, event):
        """Whether the event has the form of one, and meets its requirements after the events done so far."""
        if not isinstance(event, tuple) or len(event) == 0 or (event[0], len(event)) not in EVENT_FORMS:
            return False
        if event[0] == "born":
            # Only now, as numbers, may the two be compared: other values may be too deep for it.
            return self.is_free(event[1], event[2]) and self.is_free(event[3], event[4]) and event[1] != event[3]
        if event[0] == "gone":
            return self.is_living(event[1], event[2])
        if event[0] == "letter":
            return self.may_send(event[1], event[2], event[3])
        return self.may_calm(event[1], event[2])

    def is_person(self, thing):
        """Whether this is the number of one of the people."""
        return is_below(thing, self.people)

    def is_owner(self, thing):
        """Whether this is the name of an owner."""
        return is_name(thing) and thing in self.homes

    def is_free(self, person, word):
        """Whether this is a person and a word that this person never had for a tie."""
        return self.is_person(person) and is_word(word) and (person, word) not in self.used

    def is_living(self, person, word):
        """Whether this is a person and this person's word for a living tie."""
        return self.is_person(person) and is_word(word) and word in self.living.get(person, {})

    def may_send(self, name, way, errand):
        """Whether this is a letter that the owner of this name can send now."""
        if not self.is_owner(name) or not is_way(way) or not is_errand(errand):
            return False
        kind = errand[0]
        if kind == "part":
            return len(way) > 0
        if kind == "leave":
            return (name, errand[1]) not in self.marks
        if kind == "meet":
            return errand[1] not in self.signs
        if kind == "tie":
            return self.may_tie(self.homes[name], way, errand[1], errand[2])
        return True

    def may_tie(self, home, way, word, back):
        """Whether a letter may make such a tie where it arrives, or would make none."""
        stops = self.walk(home, way)[0]
        if len(stops) <= len(way) or stops[-1] == home:
            return True
        return self.is_free(home, word) and self.is_free(stops[-1], back)

    def may_calm(self, name, number):
        """Whether this owner can be told that nothing happened unseen since this row."""
        if not self.is_owner(name) or not is_below(number, len(self.books[name])):
            return False
        return self.calm_from[name] <= number

    def walk(self, person, way):
        """The people whom a letter is at along the way, the first one included, and the backs of its steps."""
        stops = [person]
        backs = []
        for word in way:
            step = self.living.get(stops[-1], {}).get(word)
            if step is None:
                break
            stops.append(step[0])
            backs.append(step[1])
        return tuple(stops), tuple(backs)

    def bear(self, one, word, other, back, cause):
        """Starts a tie; cause is the name of the owner whose letter did it, or None."""
        self.used[(one, word)] = True
        self.used[(other, back)] = True
        self.living.setdefault(one, {})[word] = (other, back)
        self.living.setdefault(other, {})[back] = (one, word)
        self.disturb(cause)

    def end(self, person, word, cause):
        """Ends a living tie; cause is the name of the owner whose letter did it, or None."""
        other, back = self.living[person].pop(word)
        self.living[other].pop(back)
        self.disturb(cause)

    def disturb(self, cause):
        """Ends the calm of all owners but the one whose letter is the cause."""
        for name in self.books:
            if name != cause:
                self.calm_from[name] = len(self.books[name])

    def send(self, name, way, errand):
        """Sends a letter and notes it in its owner's book."""
        self.claim(name, errand)
        stops, backs = self.walk(self.homes[name], way)
        if len(backs) < len(way):
            seen = ("lost", backs)
        else:
            seen = ("came", backs, self.carry_out(name, stops, backs, errand))
        noted = ("tie",) if errand[0] == "tie" else errand
        self.add_row(name, (way, noted, seen), stops)

    def claim(self, name, errand):
        """Uses up the mark or the sign of a letter, since even a lost letter does so."""
        if errand[0] == "leave":
            self.marks[(name, errand[1])] = None
        elif errand[0] == "meet":
            self.signs[errand[1]] = True

    def carry_out(self, name, stops, backs, errand):
        """Carries out the errand of a letter that arrived, and returns what it brings back."""
        home, goal = stops[0], stops[-1]
        if errand[0] == "list":
            return tuple(sorted(self.living.get(goal, {})))
        if errand[0] == "look":
            return self.marks.get((name, errand[1])) == goal
        if errand[0] == "tie":
            return self.tie(name, goal, errand[1], errand[2])
        if errand[0] == "meet":
            return "self" if goal == home else self.meet(goal, backs, errand[1])
        if errand[0] == "leave":
            self.marks[(name, errand[1])] = goal
        elif errand[0] == "part":
            self.end(goal, backs[-1], name)
        return None

    def tie(self, name, goal, word, back):
        """Makes a tie between the owner and the person reached, if these are two."""
        home = self.homes[name]
        if goal == home:
            return "self"
        self.bear(home, word, goal, back, name)
        return (word, back)

    def meet(self, goal, backs, sign):
        """Tells the person reached of the letter, if this is another owner."""
        for name in self.homes:
            if self.homes[name] == goal:
                self.add_row(name, ("met", backs[-1], sign), (goal,))
                # A calm row may not reach back over a met row.
                self.calm_from[name] = len(self.books[name])
                return "met"
        return None

    def add_row(self, name, row, stops):
        """Adds a row to an owner's book, with the people at its places."""
        self.books[name].append(row)
        self.stops[name].append(stops)
