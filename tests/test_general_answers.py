"""Promise 2 for what is asked of books: arguments stay as they are, answers are new, and names of arguments work."""

import unittest

from ownwords.bills import bill, gained
from ownwords.clashes import clash_of, fold_paper, is_clash
from ownwords.doings import doings, happened, is_knowing, knows
from ownwords.errors import NoBook, NoHistory, NoName, NoPlace, NoRow, NoSheets, NoSorting, NoWorld, TooMany
from ownwords.foldings import are_steps, lots, lots_behind
from ownwords.judges import is_never, is_one, is_open, is_two
from ownwords.several import could, fits, is_barred, known
from ownwords.sheets import sheeted, shift_of
from ownwords.sortings import barred, common, counts, is_sorting_paper, sorting_paper, sortings
from ownwords.verdicts import could_be, who, word_at
from ownwords.worlds import history_of, is_history_of

from tests.helper import WALK, born, letter, row

STEPS = (("put", 0), ("tie", (0, 1, 0), (1, 1, 0)))
CLASH = ("loop", (0, 1))


def book():
    """A new book."""
    return [
        row("a", ("leave", 1), "came", "b", None), row("a", ("look", 1), "came", "b", True), ("met", "a", 3),
        row("c d", ("list",), "came", "e f", ("f", "g")), row("h", WALK, "lost", ""),
    ]


def small_book():
    """A new book of few lots."""
    return [row("a", ("leave", 1), "came", "b", None), row("c", ("look", 1), "came", "d", False), row("e", WALK, "came", "f", None)]


def calm_book():
    """A new book with calm rows, in which a tie ended that the owner's letter may have ended."""
    return [
        row("a", ("list",), "came", "p", ("p", "q", "x")), row("b x", ("part",), "came", "q r", None),
        row("a", ("list",), "came", "p", ("p", "q")), ("calm", 0),
    ]


def books():
    """New books of several owners."""
    return {
        "bob": [("met", "b", 1), row("b", WALK, "came", "a", None)],
        "ann": [row("a", ("meet", 1), "came", "b", "met"), row("c", WALK, "lost", ""), row("c", WALK, "came", "d", None)], "cat": [],
    }


def wishes():
    """New wishes about them."""
    return [("one", ("ann", 0, 1), ("bob", 0, 0)), ("lacks", ("ann", 0, 0), "c", ("bob", 1)), ("ahead", ("ann", 1), ("bob", 1))]


RING = ("ring", ((("ann", 0), ("ann", 1), ("book", "ann")), (("ann", 1), ("ann", 0), ("wish", 0))))
AT_REST = (2, (("me", 0),), (born(0, "a", 1, "b"), letter("me", "a", *WALK)))


def pairs():
    """New pairs of places of the book."""
    return [((0, 1), (3, 2)), ((0, 0), (1, 0))]


def history():
    """A history that has another book."""
    return (2, (("me", 0),), (born(0, "a", 1, "b"), letter("me", "a", *WALK)))


# Each call with all its arguments by name, as a function that makes them new.
CALLS = (
    (lots, lambda: {"book": book()}),
    (lots, lambda: {"book": book(), "put": pairs()}),
    (lots_behind, lambda: {"book": book(), "steps": STEPS, "put": pairs()}),
    (lots_behind, lambda: {"book": book(), "steps": ()}),
    (are_steps, lambda: {"book": book(), "thing": STEPS, "put": pairs()}),
    (are_steps, lambda: {"book": book(), "thing": [["put", 0], [1, [2]]]}),
    (clash_of, lambda: {"book": book(), "put": pairs()}),
    (fold_paper, lambda: {"book": book(), "put": pairs()}),
    (fold_paper, lambda: {"book": book(), "put": [((0, 0), (0, 1))]}),
    (is_clash, lambda: {"book": book(), "steps": STEPS, "thing": CLASH, "put": [((0, 0), (0, 1))]}),
    (is_clash, lambda: {"book": book(), "steps": [["put", 0]], "thing": [[], [CLASH]], "put": pairs()}),
    (history_of, lambda: {"book": book()}),
    (history_of, lambda: {"book": book() + [row("a", WALK, "came", "x", None)]}),
    (is_history_of, lambda: {"book": book(), "thing": history()}),
    (is_history_of, lambda: {"book": book(), "thing": [[1], [[]], []]}),
    (who, lambda: {"book": book(), "one": (0, 1), "other": (1, 1)}),
    (who, lambda: {"book": book(), "one": (0, 1), "other": (0, 0)}),
    (who, lambda: {"book": book(), "one": (0, 1), "other": (3, 2)}),
    (could_be, lambda: {"book": book(), "pairs": pairs()}),
    (could_be, lambda: {"book": book(), "pairs": [((0, 0), (0, 1))]}),
    (word_at, lambda: {"book": book(), "place": (0, 0), "word": "a", "row": 1}),
    (word_at, lambda: {"book": book(), "place": (0, 0), "word": "h", "row": 4}),
    (word_at, lambda: {"book": book(), "place": (3, 2), "word": "g", "row": 2}),
    (is_one, lambda: {"book": book(), "one": (0, 1), "other": (1, 1), "thing": ("one", STEPS[1:])}),
    (is_one, lambda: {"book": book(), "one": (0, 1), "other": (1, 1), "thing": ["one", [["look", 1]]]}),
    (is_two, lambda: {"book": book(), "one": (0, 0), "other": (0, 1), "thing": ("two", STEPS[:1], CLASH)}),
    (is_two, lambda: {"book": book(), "one": (0, 0), "other": (0, 1), "thing": ("two", [["put", 0]], [CLASH])}),
    (is_open, lambda: {"book": book(), "one": (0, 1), "other": (3, 2), "thing": who(book(), (0, 1), (3, 2))}),
    (is_open, lambda: {"book": book(), "one": (0, 1), "other": (3, 2), "thing": ["open", [history()], []]}),
    (is_never, lambda: {"book": book(), "pairs": [((0, 0), (0, 1))], "thing": ("never", STEPS[:1], CLASH)}),
    (is_never, lambda: {"book": book(), "pairs": pairs(), "thing": [["never"], [["put", 0]], [CLASH]]}),
    (bill, lambda: {"book": book()}),
    (gained, lambda: {"book": book()}),
    (sortings, lambda: {"book": small_book()}),
    (counts, lambda: {"book": small_book()}),
    (barred, lambda: {"book": small_book()}),
    (sorting_paper, lambda: {"book": small_book(), "sorting": [[0], [1, 2], [3]]}),
    (sorting_paper, lambda: {"book": small_book(), "sorting": [[0], [1, 3], [2]]}),
    (common, lambda: {"one": [[0, 1], [2]], "two": [[0, 1], [2]]}),
    (is_sorting_paper, lambda: {"book": small_book(), "sorting": [[0], [1, 3], [2]], "thing": ["history", [history()]]}),
    (is_sorting_paper, lambda: {"book": small_book(), "sorting": [[0, 1], [2], [3]], "thing": ("never", STEPS[:1], CLASH)}),
    (knows, lambda: {"book": calm_book(), "one": (0, 1), "other": (1, 1)}),
    (knows, lambda: {"book": calm_book(), "one": (0, 1), "other": (1, 2)}),
    (knows, lambda: {"book": small_book(), "one": (0, 1), "other": (2, 1)}),
    (doings, lambda: {"book": calm_book()}),
    (doings, lambda: {"book": calm_book() + [row("b x", WALK, "came", "q r", None), ("calm", 3)]}),
    (happened, lambda: {"book": book(), "i": 3, "j": 4}),
    (happened, lambda: {"book": calm_book()[::2], "i": 0, "j": 1}),
    (is_knowing, lambda: {"book": calm_book(), "one": (0, 1), "other": (1, 1), "thing": knows(calm_book(), (0, 1), (1, 1))}),
    (is_knowing, lambda: {"book": calm_book(), "one": (0, 1), "other": (1, 1), "thing": ["one", [[], ["same"]]]}),
    (could, lambda: {"books": books(), "wishes": wishes()}),
    (could, lambda: {"books": books(), "wishes": [("ahead", ("ann", 1), ("bob", 0))]}),
    (known, lambda: {"books": books(), "wish": wishes()[0]}),
    (known, lambda: {"books": books(), "wish": wishes()[1]}),
    (known, lambda: {"books": books(), "wish": ("ahead", ("bob", 1), ("ann", 0))}),
    (fits, lambda: {"books": books(), "thing": could(books(), [])[1]}),
    (fits, lambda: {"books": books(), "thing": [[1], [[]], []]}),
    (is_barred, lambda: {"books": books(), "wishes": [("ahead", ("ann", 1), ("ann", 0))], "thing": ("never", (), RING)}),
    (is_barred, lambda: {"books": books(), "wishes": wishes(), "thing": ["never", [[]], [[RING]]]}),
    (sheeted, lambda: {"history": AT_REST, "k": 3, "shifts": [2]}),
    (shift_of, lambda: {"history": AT_REST, "k": 3, "shifts": [2], "name": "me", "way": ("a", "b", "a")}),
)

BAD_CALLS = (
    (NoBook, lots, lambda: {"book": [None, [1, [2]]], "put": [([], [])]}),
    (NoPlace, lots, lambda: {"book": book(), "put": [((0, 0), [0, [0]])]}),
    (NoPlace, are_steps, lambda: {"book": book(), "thing": [[]], "put": [((0, 0), [0, [0]])]}),
    (NoPlace, is_clash, lambda: {"book": book(), "steps": [], "thing": [[]], "put": [([0, [0]], (0, 0))]}),
    (NoBook, history_of, lambda: {"book": [[None]]}),
    (NoBook, is_history_of, lambda: {"book": [[None]], "thing": [[]]}),
    (NoPlace, who, lambda: {"book": book(), "one": (0, 0), "other": [[0], 0]}),
    (NoWorld, who, lambda: {"book": book() + [row("a", WALK, "came", "x", None)], "one": (0, 0), "other": (0, 0)}),
    (NoPlace, could_be, lambda: {"book": book(), "pairs": [((0, 0), [[0], 0])]}),
    (NoRow, word_at, lambda: {"book": book(), "place": (0, 0), "word": "a", "row": [[1]]}),
    (NoPlace, is_one, lambda: {"book": book(), "one": [[0], 0], "other": (0, 0), "thing": [[]]}),
    (NoPlace, is_never, lambda: {"book": book(), "pairs": [((0, 0), [[0], 0])], "thing": [[]]}),
    (NoBook, bill, lambda: {"book": [[None]]}),
    (TooMany, sorting_paper, lambda: {"book": book() + [row("a b c d e f g", WALK, "came", "a b c d e f g", None)], "sorting": [[1]]}),
    (NoWorld, barred, lambda: {"book": small_book() + [row("a", WALK, "came", "x", None)]}),
    (NoSorting, is_sorting_paper, lambda: {"book": small_book(), "sorting": [[0, 1], [2, [3]]], "thing": [[]]}),
    (NoWorld, knows, lambda: {"book": small_book() + [row("a", WALK, "came", "x", None)], "one": (0, 0), "other": (0, 0)}),
    (NoPlace, knows, lambda: {"book": calm_book(), "one": [[0], 0], "other": (0, 0)}),
    (NoBook, doings, lambda: {"book": [[None]]}),
    (NoRow, happened, lambda: {"book": book(), "i": 0, "j": [[1]]}),
    (NoPlace, is_knowing, lambda: {"book": calm_book(), "one": [[0], 0], "other": (0, 0), "thing": [[]]}),
    (NoBook, could, lambda: {"books": {"ann": [[None]], "bob": []}, "wishes": []}),
    (NoPlace, could, lambda: {"books": books(), "wishes": [("one", [["ann"], 0, 0], None)]}),
    (NoRow, known, lambda: {"books": books(), "wish": ("ahead", [["ann"], 0], None)}),
    (NoBook, fits, lambda: {"books": [[]], "thing": [[]]}),
    (NoRow, is_barred, lambda: {"books": books(), "wishes": [("ahead", ("ann", 0), [[1]])], "thing": [[]]}),
    (NoHistory, sheeted, lambda: {"history": [1, [], []], "k": 2, "shifts": []}),
    (NoSheets, sheeted, lambda: {"history": AT_REST, "k": 2, "shifts": [[2]]}),
    (NoName, shift_of, lambda: {"history": AT_REST, "k": 2, "shifts": [1], "name": [["me"]], "way": ()}),
)


# The kinds of the answers that are neither tuples nor truths.
KINDS = {lots: list, lots_behind: list, bill: dict, gained: list, fits: bool, shift_of: int, sortings: list, counts: list, barred: list, common: list}


def lists_in(value):
    """All lists and dicts in a value."""
    inner = list(value.values()) if isinstance(value, dict) else list(value) if isinstance(value, (list, tuple)) else []
    found = [value] if isinstance(value, (list, dict)) else []
    return found + [one for part in inner for one in lists_in(part)]


class AnswersTest(unittest.TestCase):
    def test_arguments_stay_as_they_are(self):
        for call, make in CALLS:
            given = make()
            call(**given)
            self.assertEqual(given, make(), call)
        for error, call, make in BAD_CALLS:
            given = make()
            with self.assertRaises(error):
                call(**given)
            self.assertEqual(given, make(), call)

    def test_arguments_by_position_and_by_name(self):
        for call, make in CALLS:
            given = make()
            put = {"put": given.pop("put")} if "put" in given else {}
            self.assertEqual(call(*given.values(), **put), call(**make()), call)

    def test_the_same_answer_when_called_again(self):
        for call, make in CALLS:
            given = make()
            first = call(**given)
            for error, other, wrong in BAD_CALLS:
                with self.assertRaises(error):
                    other(**wrong())
            for other, arguments in CALLS:
                other(**arguments())
            self.assertEqual(call(**given), first, call)
            self.assertEqual(call(**make()), first, call)

    def test_every_list_is_new(self):
        for call, make in CALLS:
            given = make()
            found = lists_in(call(**given)) + lists_in(call(**given)) + lists_in(given)
            self.assertEqual(len({id(one) for one in found}), len(found), call)

    def test_answers_can_be_changed_and_arguments_too(self):
        for call, make in CALLS:
            given = make()
            answer = call(**given)
            kept = call(**make())
            for one in lists_in(given):
                one.clear()
            self.assertEqual(answer, kept, call)
            for one in lists_in(answer):
                one.clear()
            self.assertEqual(call(**make()), kept, call)

    def test_kinds_of_values(self):
        for call, make in CALLS:
            answer = call(**make())
            kind = bool if call.__name__.startswith(("is_", "are_")) else KINDS.get(call, tuple)
            if answer is not None:
                self.assertIs(type(answer), kind, call)
            if call in (lots, lots_behind):
                self.assertTrue(all(type(lot) is list and type(place) is tuple for lot in answer for place in lot))
            if kind is tuple and answer is not None:
                self.assertEqual(lists_in(answer), [])
        self.assertIsNone(clash_of(book()))

    def test_what_was_returned_can_be_passed_in(self):
        for call, make in CALLS:
            given = make()
            if call is fold_paper:
                steps, clash = fold_paper(**given)
                self.assertIs(are_steps(given["book"], steps, put=given["put"]), True)
                self.assertEqual(lots_behind(given["book"], steps, put=given["put"]), lots(**given))
                self.assertIs(is_clash(given["book"], steps, clash, put=given["put"]), clash is not None)
            elif call is history_of and len(given["book"]) == 5:
                self.assertIs(is_history_of(given["book"], history_of(**given)[1]), True)


if __name__ == "__main__":
    unittest.main()
