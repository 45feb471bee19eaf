"""Clashes: what shows that the lots of a book cannot be people."""

from ownwords.foldings import folded, other_end, unfolded
from ownwords.forms import is_key, is_word
from ownwords.lives import Lives

CLASH_FORMS = (("words", 3), ("loop", 2), ("apart", 2), ("unleft", 2), ("keeps", 3), ("life", 3))


def clash_of(book, *, put=()):
    """The first clash of the lots of the book after all steps, or None."""
    return first_clash(folded(book, put))


def fold_paper(book, *, put=()):
    """Steps that lead to the lots of the book after all steps, and their first clash or None."""
    folding = folded(book, put)
    return (tuple(folding.steps), first_clash(folding))


def is_clash(book, steps, thing, *, put=()):
    """Whether these are steps and this is a clash of the lots after them."""
    return is_clash_behind(unfolded(book, put), steps, thing)


def first_clash(folding):
    """The first clash of the lots of the folding, or None."""
    clash = first_words(folding) or first_loop(folding) or first_apart(folding)
    return clash or first_unleft(folding) or first_keeps(folding) or first_life(folding)


def first_words(folding):
    """The first clash by two words, or None."""
    ends_of = {}
    for end in folding.facts.ends:
        ends_of.setdefault(folding.name_of(end), []).append(end)
    for one in folding.facts.ends:
        for other in ends_of[folding.name_of(one)]:
            if one < other and are_at_odds(folding, one, other):
                return ("words", one, other)
    return None


def first_loop(folding):
    """The first clash by a tie of someone with themselves, or None."""
    for end in folding.facts.ends:
        if is_loop(folding, end[:-1]):
            return ("loop", end[:-1])
    return None


def first_apart(folding):
    """The first clash by a look that returned false, or None."""
    for row in folding.facts.missed:
        if is_apart(folding, row):
            return ("apart", row)
    return None


def first_unleft(folding):
    """The first clash by a look that returned true, or None."""
    for row in folding.facts.unleft:
        return ("unleft", row)
    return None


def first_keeps(folding):
    """The first clash by meet letters, or None."""
    for row in folding.facts.meets:
        if is_unkept(folding, row):
            return ("keeps", row, None)
        for other in folding.facts.meets:
            if row < other and are_unkept(folding, row, other):
                return ("keeps", row, other)
    return None


def first_life(folding):
    """The first clash by a tie that has no life, or None."""
    lives = Lives(folding, ())
    # The ties stand in the order of their least names.
    for name in lives.all_ties():
        if not lives.marks[name].has_life():
            return ("life", name[0], name[1])
    return None


def is_clash_behind(folding, steps, thing):
    """Whether the folding takes these steps and this is a clash of the lots after them."""
    return folding.takes(steps) and is_clash_now(folding, thing)


def is_clash_now(folding, thing):
    """Whether this is a clash of the lots of the folding."""
    if not is_formed(thing, CLASH_FORMS):
        return False
    if thing[0] == "keeps":
        return is_keeps(folding, thing[1], thing[2])
    if thing[0] == "life":
        return is_lifeless(folding, thing[1], thing[2])
    return is_common_clash(folding, thing)


def is_formed(thing, forms):
    """Whether this is a tuple of a word and a key first, and as long as the forms say for the word."""
    if not isinstance(thing, tuple) or len(thing) < 2 or not is_key(thing[1]):
        return False
    return (thing[0], len(thing)) in forms


def is_common_clash(folding, thing):
    """Whether this, which has the form of a clash, is one of a kind that several books have too."""
    kind, about = thing[0], thing[1]
    if kind == "words":
        return folding.are_ends(about, thing[2]) and are_at_odds(folding, about, thing[2])
    if kind == "loop":
        return is_loop(folding, about)
    if kind == "apart":
        return is_apart(folding, about)
    return kind == "unleft" and about in folding.facts.unleft


def are_at_odds(folding, one, other):
    """Whether the ties of these ends are the same by these ends, but have two words at their other ends."""
    # The two ends of one tie are never at odds: where they have one word, their other ends have it too.
    if folding.name_of(one) != folding.name_of(other):
        return False
    return folding.facts.ends[other_end(one)][1] != folding.facts.ends[other_end(other)][1]


def is_loop(folding, tie):
    """Whether this is a tie of the book whose ends are in the same lot."""
    if not isinstance(tie, tuple) or tie + (0,) not in folding.facts.ends:
        return False
    return folding.are_one(folding.facts.ends[tie + (0,)][0], folding.facts.ends[tie + (1,)][0])


def is_apart(folding, row):
    """Whether the look of this row missed a mark in its own lot."""
    if row not in folding.facts.missed:
        return False
    here, there = folding.facts.missed[row]
    return folding.are_one(here, there)


def is_keeps(folding, row, other):
    """Whether the meet letter of this row has no place beside that of the other, or beside its owner."""
    if row not in folding.facts.meets:
        return False
    if other is None:
        return is_unkept(folding, row)
    if not is_key(other) or other not in folding.facts.meets:
        return False
    return row < other and are_unkept(folding, row, other)


def is_unkept(folding, row):
    """Whether the meet letter of this row ended in its owner's lot and did not tell so."""
    home, goal, thing = folding.facts.meets[row]
    return thing != "self" and folding.are_one(home, goal)


def are_unkept(folding, row, other):
    """Whether the meet letters of these rows ended in one lot and returned two different values."""
    one, two = folding.facts.meets[row], folding.facts.meets[other]
    return one[2] != two[2] and folding.are_one(one[1], two[1])


def is_lifeless(folding, place, word):
    """Whether this place and this word name a tie that has no life."""
    if not folding.groups.has(place) or not is_word(word):
        return False
    lives = Lives(folding, ())
    return lives.is_named(place, word) and not lives.marks_at(place, word).has_life()
