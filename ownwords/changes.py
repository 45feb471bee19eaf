"""Changes: within a run, ties appear and end by the owner's letters alone.

A tie that changes there must be the tie of one of these letters. A change is told by a place and a word that name the
tie, and by two rows of a run between which it appeared or ended.
"""

from ownwords.forms import is_answer, is_key, is_word
from ownwords.lives import Lives


def best_change(folding):
    """A change of the lots of the folding with as few ends to choose from as can be, and these ends; or None."""
    lives = Lives(folding, ())
    best = None
    for tie, names in lives.all_ties().items():
        spans = changed_spans(folding, lives.marks[tie])
        for place, word in names:
            for first, last in spans:
                ends = change_ends(folding, lives, place, word, first, last)
                if ends is not None and (best is None or len(ends) < len(best[1])):
                    best = (("change", place, word, first, last), ends)
    return best


def changed_spans(folding, marks):
    """The pairs of rows of one run, the earlier one first, that have a living and a lacking mark."""
    runs = folding.facts.runs
    found = []
    for one in marks.living:
        for other in marks.lacking:
            if one != other and one in runs and other in runs and runs[one] == runs[other]:
                found.append((min(one, other), max(one, other)))
    return found


def change_ends(folding, lives, place, word, first, last):
    """The ends that the end of the changed tie may be, in order; None if the tie does not change between these rows."""
    facts = folding.facts
    marks = lives.marks_at(place, word)
    if first in marks.living and last in marks.lacking:
        ties, done = facts.ended, marks.dead
    elif first in marks.lacking and last in marks.living:
        ties, done = facts.made, marks.born
    else:
        return None
    if any([first <= row < last for row in done]):
        return None
    ends = [ties[row] + (side,) for row in range(first, last) if row in ties for side in (0, 1)]
    return [end for end in ends if facts.ends[end][1] == word]


def ends_of_change(folding, thing):
    """The ends that the end of the changed tie may be, in order; None if this is no change of the lots."""
    if not is_answer(thing, "change", 5):
        return None
    place, word, first, last = thing[1:]
    if not is_key(place) or not folding.groups.has(place) or not is_word(word):
        return None
    runs = folding.facts.runs
    if not is_key(first) or not is_key(last) or first not in runs or last not in runs:
        return None
    if runs[first] != runs[last] or first >= last:
        return None
    lives = Lives(folding, ())
    return change_ends(folding, lives, place, word, first, last) if lives.is_named(place, word) else None
