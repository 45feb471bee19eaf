"""Sortings: all the ways in which the lots of a book can be people."""

from itertools import combinations

from ownwords.clashes import first_clash, is_clash_behind
from ownwords.errors import NoSorting, TooMany
from ownwords.foldings import folded, unfolded
from ownwords.forms import is_answer, is_below
from ownwords.histories import person_at
from ownwords.verdicts import check_sound
from ownwords.worlds import is_history_of, told_history

MOST_LOTS = 6


def sortings(book):
    """All possible sortings of the lots, in order, each with a history."""
    firsts = few_lots(book)
    found = []
    for sorting in all_sortings(len(firsts)):
        folding = folded(book, pairs_of(sorting, firsts))
        if len(folding.lots_now()) == len(sorting) and first_clash(folding) is None:
            found.append((sorting, told_history(folding, ())))
    return found


def counts(book):
    """All possible numbers of people at the places of the book, in order, each with a history."""
    found = {}
    for sorting, history in sortings(book):
        found.setdefault(len(sorting), history)
    return [(many, found[many]) for many in sorted(found)]


def barred(book):
    """The least sets of lots that cannot all be one person, each with steps and a clash."""
    firsts = few_lots(book)
    found = []
    for size in range(2, len(firsts) + 1):
        for numbers in subsets(len(firsts), size):
            if any([all([number in numbers for number in entry[0]]) for entry in found]):
                continue
            folding = folded(book, pairs_of([numbers], firsts))
            clash = first_clash(folding)
            if clash is not None:
                found.append((numbers, tuple(folding.steps), clash))
    return found


def sorting_paper(book, sorting):
    """A history that sorts the lots in this way, or why there is none."""
    firsts = few_lots(book)
    check_sorting(sorting, len(firsts))
    folding = folded(book, pairs_of(sorting, firsts))
    clash = first_clash(folding)
    if clash is not None:
        return ("never", tuple(folding.steps), clash)
    for one, other in subsets(len(firsts), 2):
        if not are_listed_together(sorting, one, other) and folding.are_one(firsts[one], firsts[other]):
            return ("more", tuple(folding.steps), one, other)
    return ("history", told_history(folding, ()))


def common(one, two):
    """The sorting in which two lots are in one list exactly if they are so in both of these."""
    places = {}
    for number, group in enumerate(one):
        for lot in group:
            places[lot] = number
    found = {}
    for number, group in enumerate(two):
        for lot in group:
            found.setdefault((places[lot], number), []).append(lot)
    return sorted([sorted(group) for group in found.values()])


def is_sorting_paper(book, sorting, thing):
    """Whether this is a valid result of sorting_paper."""
    firsts = few_lots(book)
    check_sorting(sorting, len(firsts))
    if is_answer(thing, "history", 2):
        return is_history_of(book, thing[1]) and sorting_in(thing[1], firsts) == sorting
    folding = unfolded(book, pairs_of(sorting, firsts))
    if is_answer(thing, "never", 3):
        return is_clash_behind(folding, thing[1], thing[2])
    if not is_answer(thing, "more", 4) or not folding.takes(thing[1]):
        return False
    one, other = thing[2], thing[3]
    if not is_below(one, len(firsts)) or not is_below(other, len(firsts)) or are_listed_together(sorting, one, other):
        return False
    return folding.are_one(firsts[one], firsts[other])


def few_lots(book):
    """The first places of the lots of the book; raises NoBook, TooMany and NoWorld."""
    folding = folded(book, ())
    firsts = [lot[0] for lot in folding.lots_now()]
    if len(firsts) > MOST_LOTS:
        raise TooMany(len(firsts))
    check_sound(folding)
    return firsts


def check_sorting(sorting, many):
    """Raises NoSorting if this is not a sorting of so many lots."""
    if not isinstance(sorting, list) or not all([is_list_of_lots(group, many) for group in sorting]):
        raise NoSorting(sorting)
    lots = [lot for group in sorting for lot in group]
    firsts = [group[0] for group in sorting]
    if sorted(lots) != list(range(many)) or sorted(firsts) != firsts:
        raise NoSorting(sorting)


def is_list_of_lots(thing, many):
    """Whether this is an ascending list of numbers of lots, with at least one of them."""
    if not isinstance(thing, list) or len(thing) == 0 or not all([is_below(lot, many) for lot in thing]):
        return False
    return sorted(thing) == thing


def all_sortings(many):
    """All sortings of so many lots, in order."""
    found = [[]]
    for lot in range(many):
        longer = []
        for sorting in found:
            longer.append(sorting + [[lot]])
            for at, group in enumerate(sorting):
                longer.append(sorting[:at] + [group + [lot]] + sorting[at + 1:])
        found = longer
    # The lists of one sorting may stand in another one too, but each that is returned must be new.
    return [[list(group) for group in sorting] for sorting in sorted(found)]


def subsets(many, size):
    """All ascending lists of so many of the numbers below this one, in order."""
    return [list(numbers) for numbers in combinations(range(many), size)]


def pairs_of(sorting, firsts):
    """The pairs of places that make one person of the lots of each list."""
    return [(firsts[one], firsts[other]) for group in sorting for one, other in zip(group, group[1:])]


def are_listed_together(sorting, one, other):
    """Whether the two lots are in the same list."""
    return any([one in group and other in group for group in sorting])


def sorting_in(history, firsts):
    """How this history of a book of "me" sorts the lots with these first places."""
    found = {}
    for number, first in enumerate(firsts):
        found.setdefault(person_at(history, "me", first), []).append(number)
    return list(found.values())
