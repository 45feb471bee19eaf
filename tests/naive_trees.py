"""What DOC.md says of changes and trees, worked out straight from its words. Nothing here is taken from the package."""

from tests import naive
from tests.helper import shown


def change_ends(book, lots, thing):
    """The ends that the end of the changed tie may be, or None if this is no change of these lots."""
    if not isinstance(thing, tuple) or len(thing) != 5 or thing[0] != "change":
        return None
    _, place, word, s, t = thing
    numbers = [shown(number) for number in range(len(book))]
    if shown(place) not in map(shown, naive.places(book)) or shown(s) not in numbers or shown(t) not in numbers:
        return None
    if not isinstance(word, str) or not s < t or not any({s, t} <= set(run) for run in naive.runs(book)):
        return None
    living, lacking, born, dead = naive.marks_of(book, lots, naive.names_of(book, lots, place, word))
    between = set(range(s, t))
    ends = s in living and t in lacking
    begins = s in lacking and t in living and not ends
    if not (ends and not dead & between) and not (begins and not born & between):
        return None
    named = naive.ends(book)
    found = []
    for r in sorted(between):
        if ends and naive.came(book[r]) and book[r][1] == ("part",):
            found += [(r, len(book[r][0]), side) for side in (0, 1)]
        if begins and naive.makes(book[r]):
            found += [(r, len(book[r][0]) + 1, side) for side in (0, 1)]
    return [end for end in found if named[end][1] == word]


def is_tree(book, lots, pairs, asked, thing):
    """Whether this is a tree below these lots; put steps refer to the pairs, and same leaves to what is asked for."""
    if not isinstance(thing, tuple) or len(thing) not in (2, 3) or not isinstance(thing[0], tuple):
        return False
    lots = dict(lots)
    possible = {shown(step) for step in naive.all_steps(book, pairs)}
    for step in thing[0]:
        pair = naive.merged_by(book, pairs, lots, step) if shown(step) in possible else None
        if pair is None:
            return False
        naive.merge(lots, *pair)
    if len(thing) == 2:
        if shown(thing[1]) == shown(("same",)):
            return asked is not None and lots[asked[0]] == lots[asked[1]]
        return is_clash(book, lots, thing[1])
    ends = change_ends(book, lots, thing[1])
    if ends is None or not isinstance(thing[2], tuple) or len(thing[2]) != len(ends):
        return False
    for end, branch in zip(ends, thing[2]):
        if not isinstance(branch, tuple) or len(branch) != 2 or shown(branch[0]) != shown(end):
            return False
        below = dict(lots)
        naive.merge(below, naive.ends(book)[end][0], thing[1][1])
        if not is_tree(book, below, pairs, asked, branch[1]):
            return False
    return True


def is_clash(book, lots, clash):
    """Whether this is a clash of these lots."""
    if isinstance(clash, tuple) and len(clash) == 3 and clash[0] == "life":
        places = [shown(place) for place in naive.places(book)]
        if shown(clash[1]) not in places or not isinstance(clash[2], str):
            return False
        return (lots[clash[1]], clash[2]) in naive.mentions(book, lots) and naive.is_life_clash(book, lots, *clash[1:])
    told = [clash]
    if isinstance(clash, tuple) and len(clash) == 3 and clash[0] == "words":
        told.append(("words", clash[2], clash[1]))
    found = {shown(one) for one in naive.clashes(book, lots)}
    return any(shown(one) in found for one in told)


def is_knowing(book, one, other, thing):
    """Whether this is a valid answer "one" or "two" of knows."""
    if not isinstance(thing, tuple) or len(thing) != 2:
        return False
    if thing[0] == "one":
        return is_tree(book, naive.start(book), (), (one, other), thing[1])
    return thing[0] == "two" and is_tree(book, naive.start(book), [(one, other)], None, thing[1])


def size(tree):
    """How many trees there are in a tree, itself counted."""
    return 1 + sum(size(branch) for _, branch in tree[2]) if len(tree) == 3 else 1
