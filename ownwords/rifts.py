"""Rifts: the clashes of several books, which show that their lots cannot be people."""

from ownwords.clashes import first_apart, first_loop, first_unleft, first_words, is_common_clash, is_formed
from ownwords.forms import is_key, is_name, is_word

RIFT_FORMS = (
    ("words", 3), ("loop", 2), ("apart", 2), ("unleft", 2), ("keeps", 3), ("life", 3), ("owners", 3), ("signs", 2),
)


def first_rift(folding, lives):
    """A clash of the lots of the folding, or None."""
    rift = first_words(folding) or first_loop(folding) or first_apart(folding) or first_unleft(folding)
    return rift or first_unkept(folding) or first_twice(lives) or first_owners(folding) or first_signs(folding)


def first_unkept(folding):
    """The first clash by meet letters, or None."""
    meets = folding.facts.meets
    for row in meets:
        for other in meets:
            if row < other and are_unlike(folding, row, other):
                return ("keeps", row, other)
        for name in folding.facts.first_homes:
            if is_unlike_owner(folding, row, name):
                return ("keeps", row, name)
    return None


def first_twice(lives):
    """The first clash by a tie that was made twice or ended twice, or None."""
    for name in lives.all_ties():
        if is_twice(lives.marks[name]):
            return ("life", name[0], name[1])
    return None


def first_owners(folding):
    """The first clash by two owners in one lot, or None."""
    for one in folding.facts.first_homes:
        for other in folding.facts.first_homes:
            if one < other and are_one_owner(folding, one, other):
                return ("owners", one, other)
    return None


def first_signs(folding):
    """The first clash by a meet letter and a met row that do not tell of the same tie, or None."""
    for row in folding.facts.misread:
        return ("signs", row)
    return None


def is_rift(folding, lives, thing):
    """Whether this is a clash of the lots of the folding."""
    if not is_formed(thing, RIFT_FORMS):
        return False
    kind, about = thing[0], thing[1]
    if kind == "keeps":
        return is_keeping(folding, about, thing[2])
    if kind == "owners":
        return is_name(about) and is_name(thing[2]) and about < thing[2] and are_one_owner(folding, about, thing[2])
    if kind == "signs":
        return about in folding.facts.misread
    if kind == "life":
        return is_made_twice(folding, lives, about, thing[2])
    return is_common_clash(folding, thing)


def is_keeping(folding, row, other):
    """Whether the meet letter of this row has no place beside that of the other row, or beside the other owner."""
    meets = folding.facts.meets
    if row not in meets or not is_key(other):
        return False
    if is_name(other):
        return is_unlike_owner(folding, row, other)
    return other in meets and row < other and are_unlike(folding, row, other)


def are_unlike(folding, row, other):
    """Whether these meet letters ended in one lot, and did not both find nobody or both find the same owner there."""
    one, two = folding.facts.meets[row], folding.facts.meets[other]
    if not folding.are_one(one[1], two[1]):
        return False
    if row[0] == other[0]:
        return one[2] != two[2]
    return (one[2] is None) != (two[2] is None)


def is_unlike_owner(folding, row, name):
    """Whether the meet letter of this row ended in the lot of the owner of this name, and did not tell so."""
    home = folding.facts.first_homes.get(name)
    goal, thing = folding.facts.meets[row][1:]
    if home is None or not folding.are_one(home, goal):
        return False
    if thing == "self":
        return row[0] != name
    return thing is None or row[0] == name or row not in folding.facts.joined


def are_one_owner(folding, one, other):
    """Whether the owners of these names are in the same lot."""
    homes = folding.facts.first_homes
    if homes.get(one) is None or homes.get(other) is None:
        return False
    return folding.are_one(homes[one], homes[other])


def is_twice(marks):
    """Whether a tie with these marks was made twice or ended twice."""
    return len(marks.born) > 1 or len(marks.dead) > 1


def is_made_twice(folding, lives, place, word):
    """Whether this place and this word name a tie that was made twice or ended twice."""
    if not folding.groups.has(place) or not is_word(word):
        return False
    return lives.is_named(place, word) and is_twice(lives.marks_at(place, word))
