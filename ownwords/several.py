"""Several books: what their owners can know together, though nobody knows all of the order of the moments."""

from ownwords.errors import NoHistory
from ownwords.facts import facts_of_several
from ownwords.foldings import Folding
from ownwords.forms import is_answer, is_below
from ownwords.histories import played
from ownwords.lives import Lives
from ownwords.orders import MOST_CASES, all_cases, first_order, settled
from ownwords.rifts import first_rift, is_rift
from ownwords.rings import Sight, is_ring_tree
from ownwords.shelves import check_books, check_wish, contrary_of
from ownwords.worlds import told_in_order


def could(books, wishes):
    """A history that fits the books and makes the wishes true, or why there is none."""
    folding = folding_of(books, wishes)
    folding.take_all()
    steps = tuple(folding.steps)
    lives = Lives(folding, word_wishes(wishes))
    rift = first_rift(folding, lives)
    if rift is not None:
        return ("never", steps, rift)
    for number in range(len(wishes)):
        if is_same(folding, wishes, number):
            return ("never", steps, ("same", number))
    tree, used, order = settled(first_order(folding.facts, lives, wishes), all_cases(lives), MOST_CASES)
    if tree is not None:
        return ("never", steps, tree)
    return ("history", told_in_order(folding, lives, order.line()))


def known(books, wish):
    """Whether the books show that the wish is true or that its contrary is, or leave it open, or fit no history."""
    wished = could(books, [wish])
    contrary = could(books, [contrary_of(wish)])
    if wished[0] == "never":
        word = "clash" if contrary[0] == "never" else "no"
        return (word,) + wished[1:]
    if contrary[0] == "never":
        return ("yes",) + contrary[1:]
    return ("open", wished[1], contrary[1])


def fits(books, thing):
    """Whether this is a history in which the owners of these names have exactly these books."""
    check_books(books)
    try:
        told = played(thing)
    except NoHistory:
        return False
    return all([name in told and told[name] == books[name] for name in books])


def is_barred(books, wishes, thing):
    """Whether this is a valid answer "never" of could."""
    folding = folding_of(books, wishes)
    if not is_answer(thing, "never", 3) or not folding.takes(thing[1]):
        return False
    why = thing[2]
    if is_answer(why, "same", 2):
        return is_below(why[1], len(wishes)) and is_same(folding, wishes, why[1])
    lives = Lives(folding, word_wishes(wishes))
    return is_rift(folding, lives, why) or is_ring_tree(Sight(folding, lives, wishes), why)


def folding_of(books, wishes):
    """The folding of several books ahead of all steps; raises NoBook, NoPlace and NoRow."""
    check_books(books)
    for wish in wishes:
        check_wish(books, wish)
    pairs = [(wish[1], wish[2]) if wish[0] == "one" else None for wish in wishes]
    return Folding(facts_of_several(books), pairs)


def word_wishes(wishes):
    """The wishes about words."""
    return [wish for wish in wishes if wish[0] in ("lives", "lacks")]


def is_same(folding, wishes, number):
    """Whether the wish of this number wants two people where there is one lot."""
    wish = wishes[number]
    return wish[0] == "two" and folding.are_one(wish[1], wish[2])
