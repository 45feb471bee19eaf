"""Trees: they show what must be true by following up all that the owner's letters may have done."""

from ownwords.changes import best_change, ends_of_change
from ownwords.clashes import first_clash, is_clash_now
from ownwords.forms import is_key


def grown(folding, asked):
    """A tree that shows that the lots cannot be people, and None; or None and a folding whose lots can be.

    Where a pair of places is asked for, the tree shows that the two are one or that the lots cannot be people.
    """
    folding.take_all()
    steps = tuple(folding.steps)
    if asked is not None and folding.are_one(asked[0], asked[1]):
        return ((steps, ("same",)), None)
    clash = first_clash(folding)
    if clash is not None:
        return ((steps, clash), None)
    best = best_change(folding)
    if best is None:
        return (None, folding)
    change, ends = best
    branches = []
    for end in ends:
        tree, left = grown(branch_of(folding, change, end), asked)
        if tree is None:
            return (None, left)
        branches.append((end, tree))
    return ((steps, change, tuple(branches)), None)


def branch_of(folding, change, end):
    """The folding that goes on from this one if the end of the changed tie is this one."""
    branch = folding.twin()
    branch.groups.unite(folding.facts.ends[end][0], change[1])
    return branch


def is_tree(folding, thing, asked):
    """Whether this is a tree that goes on from the folding, and shows what grown would show; it takes the steps.

    Each branch merges two lots, so trees that are right so far do not get deep.
    """
    if not isinstance(thing, tuple) or len(thing) not in (2, 3) or not folding.takes(thing[0]):
        return False
    if len(thing) == 2:
        return is_leaf(folding, thing[1], asked)
    change, branches = thing[1], thing[2]
    ends = ends_of_change(folding, change)
    if ends is None or not isinstance(branches, tuple) or len(branches) != len(ends):
        return False
    return all([is_branch(folding, change, end, branch, asked) for end, branch in zip(ends, branches)])


def is_leaf(folding, thing, asked):
    """Whether this is a leaf for the lots of the folding."""
    if thing == ("same",):
        return asked is not None and folding.are_one(asked[0], asked[1])
    return is_clash_now(folding, thing)


def is_branch(folding, change, end, thing, asked):
    """Whether this is this end of the change, and a tree for it."""
    if not isinstance(thing, tuple) or len(thing) != 2 or not is_key(thing[0]) or thing[0] != end:
        return False
    return is_tree(branch_of(folding, change, end), thing[1], asked)
