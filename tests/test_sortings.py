"""Promises 18 and 19: all ways in which the lots of a book can be people."""

import unittest

from ownwords.clashes import fold_paper, is_clash
from ownwords.errors import NoBook, NoSorting, NoWorld, TooMany
from ownwords.foldings import lots, lots_behind
from ownwords.histories import person_at, played
from ownwords.sortings import barred, common, counts, is_sorting_paper, sorting_paper, sortings
from ownwords.verdicts import could_be, who
from ownwords.worlds import history_of

from tests import naive, slow
from tests.checks import check_history
from tests.helper import TIE, WALK, born, changed, deep_list, deep_tuple, letter, listed, lost, row, shown, strange_values, walk
from tests.plays import changed_book, some_history
from tests.test_judges import slow_judge

LEFT = row("a", ("leave", 1), "came", "p", None)
MISSED = row("b", ("look", 1), "came", "q", False)
RING = [walk("a", "p"), walk("b", "q"), walk("c", "r"), walk("b e", "q 1"), walk("c e", "r 2")]


def first_places(book):
    """The first places of the lots."""
    return [lot[0] for lot in lots(book)]


def pairs_of(book, sorting):
    """The pairs put for this sorting, as DOC.md numbers them."""
    firsts = first_places(book)
    return [(firsts[one], firsts[other]) for group in sorting for one, other in zip(group, group[1:])]


def all_sortings(many):
    """All sortings of so many lots, in list order."""
    found = []
    for numbers in slow.partitions(many):
        found.append([[lot for lot in range(many) if numbers[lot] == at] for at in range(max(numbers, default=-1) + 1)])
    return sorted(found)


def slow_possible(book):
    """All possible sortings, by a search that knows nothing of lots."""
    found = []
    for groups in slow.sortings_of(book):
        sorting = {}
        for number, first in enumerate(first_places(book)):
            sorting.setdefault([at for at, group in enumerate(groups) if first in group][0], []).append(number)
        found.append(sorted(sorting.values()))
    return sorted(found) if book else [[]]


def slow_is_paper(book, sorting, thing):
    """Whether this is a valid paper without a history."""
    pairs = pairs_of(book, sorting)
    if slow_judge(book, pairs, "never", thing):
        return True
    if not isinstance(thing, tuple) or len(thing) != 4 or thing[0] != "more" or not isinstance(thing[1], tuple):
        return False
    possible = [shown(step) for step in naive.all_steps(book, pairs)]
    if not all(shown(step) in possible for step in thing[1]):
        return False
    now, firsts = naive.after(book, pairs, thing[1]), first_places(book)
    numbers = [shown(number) for number in range(len(firsts))]
    if now is None or shown(thing[2]) not in numbers or shown(thing[3]) not in numbers:
        return False
    if any(thing[2] in group and thing[3] in group for group in sorting):
        return False
    return now[firsts[thing[2]]] == now[firsts[thing[3]]]


class SortingCase(unittest.TestCase):
    def check_sorted(self, book, sorting, history):
        """The history has the book and sorts its lots in this way."""
        check_history(self, book, history, pairs_of(book, sorting))
        firsts = first_places(book)
        for one in range(len(firsts)):
            for other in range(len(firsts)):
                together = any(one in group and other in group for group in sorting)
                same = person_at(history, "me", firsts[one]) == person_at(history, "me", firsts[other])
                self.assertEqual(same, together)

    def check_paper(self, book, sorting, possible):
        """The paper is a history exactly if the sorting is possible, and its judge lets it by."""
        paper = sorting_paper(book, sorting)
        self.assertIs(is_sorting_paper(book, sorting, paper), True)
        self.assertEqual(paper[0] == "history", possible, paper)
        if paper[0] == "history":
            self.assertEqual(len(paper), 2)
            self.check_sorted(book, sorting, paper[1])
        else:
            self.assertTrue(slow_is_paper(book, sorting, paper))
            self.assertTrue(all(word in ("put", "tie", "look", "self") for word, *_ in paper[1]))
        return paper

    def check(self, book):
        """All functions about the sortings of this book say what a slow search says; returns the sortings."""
        found = sortings(book)
        self.assertIs(type(found), list)
        possible = [sorting for sorting, _ in found]
        self.assertEqual(possible, slow_possible(book))
        for sorting, history in found:
            self.check_sorted(book, sorting, history)
        for sorting in all_sortings(len(lots(book))):
            self.check_paper(book, sorting, sorting in possible)
        for one in possible:
            for two in possible:
                self.assertIn(common(one, two), possible)
        self.check_counts(book, possible)
        self.check_barred(book, possible)
        return possible

    def check_counts(self, book, possible):
        found = counts(book)
        self.assertEqual([many for many, _ in found], sorted({len(sorting) for sorting in possible}))
        for many, history in found:
            persons = {person_at(history, "me", place) for place in naive.places(book)}
            self.assertEqual(len(persons), many)
            sorting = [one for one in possible if len(one) == many and self.sorts(book, one, history)]
            self.assertEqual(len(sorting), 1)
            self.check_sorted(book, sorting[0], history)

    def sorts(self, book, sorting, history):
        firsts = first_places(book)
        persons = [{person_at(history, "me", firsts[lot]) for lot in group} for group in sorting]
        return all(len(group) == 1 for group in persons) and len(set.union(set(), *persons)) == len(sorting)

    def check_barred(self, book, possible):
        found = barred(book)
        many = len(lots(book))
        wanted = []
        for bits in range(2 ** many):
            numbers = [lot for lot in range(many) if bits >> lot & 1]
            lesser = [numbers[:at] + numbers[at + 1:] for at in range(len(numbers))]
            if not self.is_one(possible, numbers) and all(self.is_one(possible, part) for part in lesser):
                wanted.append(numbers)
        self.assertEqual([entry[0] for entry in found], sorted(wanted, key=lambda numbers: (len(numbers), numbers)))
        for numbers, steps, clash in found:
            self.assertIs(type(numbers), list)
            self.assertTrue(slow_judge(book, pairs_of(book, [numbers]), "never", ("never", steps, clash)))

    def is_one(self, possible, numbers):
        """Whether these lots are one person in a possible sorting."""
        return not numbers or any(set(numbers) <= set(group) for sorting in possible for group in sorting)


class SortingsTest(SortingCase):
    def test_the_empty_book(self):
        self.assertEqual([sorting for sorting, _ in sortings([])], [[]])
        self.assertEqual([many for many, _ in counts([])], [0])
        self.assertEqual(barred([]), [])
        self.assertEqual(sorting_paper([], [])[0], "history")
        for history in (sortings([])[0][1], counts([])[0][1], sorting_paper([], [])[1]):
            check_history(self, [], history)
            self.assertIs(is_sorting_paper([], [], ("history", history)), True)
        self.assertEqual(common([], []), [])

    def test_one_lot(self):
        for book in ([walk("", "")], [lost("a"), ("met", "b", 1)], [row("", TIE, "came", "", "self")], [listed("a b")]):
            self.assertEqual(self.check(book), [[[0]]])
            self.assertEqual([many for many, _ in counts(book)], [1])
            self.assertEqual(barred(book), [])

    def test_two_lots(self):
        self.assertEqual(self.check([walk("a", "p")]), [[[0], [1]]])
        self.assertEqual([entry[0] for entry in barred([walk("a", "p")])], [[0, 1]])

    def test_three_lots(self):
        self.assertEqual(self.check([walk("a b", "p q")]), [[[0], [1], [2]], [[0, 2], [1]]])
        self.assertEqual(self.check([walk("a", "p"), walk("b", "q")]), [[[0], [1], [2]], [[0], [1, 2]]])
        self.assertEqual(self.check([LEFT, MISSED]), [[[0], [1], [2]]])
        self.assertEqual([many for many, _ in counts([walk("a", "p"), walk("b", "q")])], [2, 3])

    def test_lots_of_which_each_two_can_be_one_but_not_all(self):
        # The word is there first and last, but not in between: that is too much for one person.
        book = [walk("a x", "p 1"), lost("b x", "q"), walk("c x", "r 1")]
        self.check(book)
        self.assertIn([1, 3, 4], [entry[0] for entry in barred(book)])
        possible = [sorting for sorting, _ in sortings(book)]
        self.assertIn([[0], [1, 3], [2], [4], [5]], possible)
        self.assertIn([[0], [1, 4], [2, 5], [3]], possible)

    def test_six_lots_and_seven(self):
        book = [walk("a", "p"), walk("b", "q"), walk("c", "r"), walk("d", "s"), walk("e", "t")]
        self.assertEqual(len(self.check(book)), 52)
        self.assertEqual([many for many, _ in counts(book)], [2, 3, 4, 5, 6])
        self.assertEqual([entry[0] for entry in barred(book)], [[0, lot] for lot in range(1, 6)])
        for many in (7, 8, 41):
            rows = [walk(word, word) for word in "abcdefgh"[:many - 1]]
            if many == 41:
                rows = [walk(str(number) + " b c d e f g h", "1 2 3 4 5 6 7 8") for number in range(5)]
            for call in (
                sortings, counts, barred, lambda book: sorting_paper(book, None), lambda book: is_sorting_paper(book, None, None),
                lambda book: sorting_paper(book, [[lot] for lot in range(many)]),
            ):
                with self.assertRaises(TooMany) as caught:
                    call(rows)
                self.assertEqual(caught.exception.many, len(lots(rows)))
                self.assertEqual(caught.exception.many, many)

    def test_other_books(self):
        for book in (
            RING[:3], [walk("a b c", "p q r")], [walk("a x", "p 1"), walk("b x", "q 2")], [LEFT, MISSED, walk("c", "r")],
            [row("a", TIE, "came", "p", ("u", "v")), walk("u w", "v z")], [walk("a b", "p q"), lost("a b", "p"), walk("c", "r")],
            [listed("p x", "a", "p"), listed("q y", "b", "q"), listed("p x", "a", "p")],
            [row("a", ("meet", 1), "came", "p", None), row("b", ("meet", 2), "came", "q", "met"), walk("c", "r")],
            [row("a b", ("meet", 1), "came", "p q", "self"), ("met", "c", 7), listed("a b c")],
        ):
            self.check(book)

    def test_books_that_were_played(self):
        many = 0
        for number in range(260):
            book = played(some_history(number, 2 + number % 4))["me"]
            if sum(len(naive.backs(one)) for one in book) <= 5 and len(lots(book)) <= 5:
                self.check(book)
                many += 1
        self.assertGreater(many, 80)

    def test_every_history_sorts_its_lots_in_one_of_these_ways(self):
        for number in range(60):
            history = some_history(number, 3)
            book = played(history)["me"]
            firsts = first_places(book)
            if len(firsts) > 6:
                continue
            persons = {}
            for lot, first in enumerate(firsts):
                persons.setdefault(person_at(history, "me", first), []).append(lot)
            sorting = list(persons.values())
            self.assertIn(sorting, [one for one, _ in sortings(book)])
            self.assertIn(len(sorting), [many for many, _ in counts(book)])
            self.assertIs(is_sorting_paper(book, sorting, ("history", history)), True)
            for other in all_sortings(len(firsts)):
                self.assertIs(is_sorting_paper(book, other, ("history", history)), other == sorting)

    def test_the_first_sorting_merges_nothing(self):
        for number in range(100):
            book = played(some_history(number, 3))["me"]
            many = len(lots(book))
            if many <= 6:
                self.assertEqual(sortings(book)[0][0], [[lot] for lot in range(many)])
                self.assertEqual(counts(book)[-1][0], many)

    def test_it_agrees_with_who_and_could_be(self):
        firsts = first_places(RING[:4])
        for one in range(len(firsts)):
            for other in range(one):
                together = [sorting for sorting, _ in sortings(RING[:4]) if any({one, other} <= set(group) for group in sorting)]
                self.assertEqual(who(RING[:4], firsts[one], firsts[other])[0] == "open", bool(together))
                self.assertEqual(could_be(RING[:4], [(firsts[one], firsts[other])])[0] == "history", bool(together))


class PapersTest(SortingCase):
    BOOK = [walk("a x", "p 1"), walk("b x", "q 1"), MISSED]

    def test_never_and_more(self):
        # Lots: the owner, two people next to the owner, and one behind each of them.
        self.assertEqual(first_places(self.BOOK), [(0, 0), (0, 1), (0, 2), (1, 1), (1, 2)])
        apart = [[0], [1, 3], [2], [4]]
        self.assertEqual(self.check_paper(self.BOOK, apart, False)[0], "more")
        put, tie = ("put", 0), ("tie", (0, 2, 0), (1, 2, 0))
        for steps in ((put, tie), (put, put, tie), (put, tie[:1] + tie[:0:-1]), (("tie", (1, 1, 0), (2, 1, 0)), put, tie, tie)):
            self.assertIs(is_sorting_paper(self.BOOK, apart, ("more", steps, 2, 4)), True)
            self.assertIs(is_sorting_paper(self.BOOK, apart, ("more", steps, 4, 2)), True)
        steps = (put, tie)
        for thing in (
            ("more", steps, 1, 3), ("more", steps, 2, 2), ("more", steps, 0, 4), ("more", steps, 2, 5), ("more", steps, -3, 4),
            ("more", (put,), 2, 4), ("more", (tie,), 2, 4), ("more", (), 2, 4), ("more", steps[::-1], 2, 4), ("more", steps, 2),
            ("more", list(steps), 2, 4), ["more", steps, 2, 4], ("more", steps, (2, 4)), ("more", steps, "2", "4"),
            ("more", steps, 2, 4, ()), ("more", (("put", 1),) + steps, 2, 4), ("never", steps, 2, 4), ("more", steps, 4, True),
        ):
            self.assertIs(is_sorting_paper(self.BOOK, apart, thing), False, thing)
        together = [[0], [1, 3], [2, 4]]
        for thing in (("more", (put, ("put", 1)), 2, 4), ("more", (put, tie), 2, 4)):
            self.assertIs(is_sorting_paper(self.BOOK, together, thing), False)
        self.assertIs(is_sorting_paper(self.BOOK, [[0], [1, 3], [2], [4]], ("more", (put, tie), 4, 2)), True)
        self.check_paper(self.BOOK, together, True)

    def test_lots_are_no_truths(self):
        book = [walk("a", "p"), walk("c d a", "r s p")]
        self.assertEqual(first_places(book), [(0, 0), (0, 1), (1, 1), (1, 2), (1, 3)])
        sorting, steps = [[0, 3], [1], [2], [4]], (("put", 0), ("tie", (0, 1, 0), (1, 3, 0)))
        self.check_paper(book, sorting, False)
        for one, wanted in ((1, True), (True, False), (0, False), (False, False), (4, False)):
            self.assertIs(is_sorting_paper(book, sorting, ("more", steps, one, 4)), wanted)
            self.assertIs(is_sorting_paper(book, sorting, ("more", steps, 4, one)), wanted)

    def test_pairs_are_numbered_over_all_lists(self):
        book = [walk("a", "p"), walk("b", "q"), walk("c", "r"), walk("d", "p"), walk("e", "s")]
        sorting = [[0], [1, 2, 4], [3, 5]]
        self.assertEqual(pairs_of(book, sorting), [((0, 1), (1, 1)), ((1, 1), (3, 1)), ((2, 1), (4, 1))])
        clash = ("words", (0, 1, 1), (3, 1, 1))
        for steps, wanted in (
            ((("put", 0), ("put", 1)), True), ((("put", 1), ("put", 0)), True), ((("put", 0), ("put", 2), ("put", 1)), True),
            ((("put", 0),), False), ((("put", 1), ("put", 2)), False), ((("put", 0), ("put", 1), ("put", 3)), False),
        ):
            self.assertIs(is_sorting_paper(book, sorting, ("never", steps, clash)), wanted)
        self.check_paper(book, sorting, False)

    def test_histories_of_the_sorting(self):
        book = [walk("a", "p"), walk("b", "q")]
        events = (born(0, "a", 1, "p"), letter("me", "a", *WALK))
        one = (2, (("me", 0),), events + (born(0, "b", 1, "q"), letter("me", "b", *WALK)))
        two = (90, (("you", 5), ("me", 0)), (born(7, "a", 8, "a"),) + events + (born(0, "b", 50, "q"), letter("me", "b", *WALK)))
        for sorting, history, other in (([[0], [1, 2]], one, two), ([[0], [1], [2]], two, one)):
            self.assertIs(is_sorting_paper(book, sorting, ("history", history)), True)
            for thing in (
                ("history", other), ("history", history, ()), ("history",), ["history", history], history, ("open", history),
                ("history", history[:2] + (history[2][:-1],)), ("history", history[:2] + (history[2] + (None,),)),
            ):
                self.assertIs(is_sorting_paper(book, sorting, thing), False)
        self.assertIs(is_sorting_paper(book, [[0, 1], [2]], ("history", one)), False)

    def test_papers_that_differ_a_little(self):
        for book, sorting in (
            (self.BOOK, [[0], [1, 3], [2], [4]]), (self.BOOK, [[0, 1], [2, 3, 4]]), ([LEFT, MISSED, walk("c", "r")], [[0], [1, 2, 3]]),
        ):
            paper = sorting_paper(book, sorting)
            for thing in changed(paper):
                self.assertIs(is_sorting_paper(book, sorting, thing), slow_is_paper(book, sorting, thing), thing)

    def test_values_of_all_kinds(self):
        sorting = [[0], [1, 3], [2], [4]]
        for value in strange_values():
            for thing in (
                value, ("history", value), ("never", value, value), ("more", value, 2, 4), ("more", (), value, value),
                ("more", (("put", value),), 2, 4), ("more", (("put", 0), ("tie", (0, 2, 0), (1, 2, 0))), value, 4),
                ("more", (("put", 0), ("tie", (0, 2, 0), (1, 2, 0))), 2, value), ("never", (), ("loop", value)), (value, (), 1, 2),
            ):
                self.assertIs(is_sorting_paper(self.BOOK, sorting, thing), False)


class CommonTest(unittest.TestCase):
    def test_common(self):
        for one, two, wanted in (
            ([[0]], [[0]], [[0]]), ([[0, 1]], [[0], [1]], [[0], [1]]), ([[0, 1, 2]], [[0, 2], [1]], [[0, 2], [1]]),
            ([[0, 1, 4], [2, 3]], [[0, 4], [1, 2, 3]], [[0, 4], [1], [2, 3]]), ([[0, 2], [1, 3]], [[0, 1], [2, 3]], [[0], [1], [2], [3]]),
            ([[0, 3], [1, 4], [2, 5]], [[0, 3], [1, 4], [2, 5]], [[0, 3], [1, 4], [2, 5]]),
        ):
            self.assertEqual(common(one, two), wanted)
            self.assertEqual(common(two, one), wanted)
            self.assertEqual(common(two=two, one=one), wanted)

    def test_many_lots(self):
        # No book is asked for, so nothing keeps the lots few.
        evens = [[lot for lot in range(40) if lot % 2 == rest] for rest in range(2)]
        thirds = [[lot for lot in range(40) if lot % 3 == rest] for rest in range(3)]
        self.assertEqual(common(evens, thirds), sorted([lot for lot in range(40) if lot % 6 == rest] for rest in range(6)))

    def test_the_result_is_new(self):
        for one in all_sortings(4):
            for two in (one, [list(group) for group in one]):
                result = common(one, two)
                self.assertEqual(result, one)
                for group in result:
                    self.assertFalse(any(group is other for other in one + two))
                    group.append(9)
                self.assertEqual(one, sorted(one))
                self.assertNotIn(9, [lot for group in one for lot in group])


class ErrorsTest(unittest.TestCase):
    BOOK = [walk("a b", "p q")]
    BAD = [walk("a", "b"), walk("a", "c")]
    CALLS = (
        sortings, counts, barred, lambda book: sorting_paper(book, None), lambda book: is_sorting_paper(book, None, None),
        lambda book: sorting_paper(book, [[0], [1], [2]]), lambda book: is_sorting_paper(book, [[0], [1], [2]], None),
    )

    def test_no_book_comes_first(self):
        many = [walk(word, word) for word in "abcdefgh"]
        for call in self.CALLS:
            for book, number in ((None, None), ((), None), ({}, None), ([None], 0), (many + self.BAD + [("met", 1, 1)], 10)):
                with self.assertRaises(NoBook) as caught:
                    call(book)
                self.assertEqual((caught.exception.name, caught.exception.row), (None, number))
            for value in strange_values():
                with self.assertRaises(NoBook) as caught:
                    call([walk("", ""), value])
                self.assertEqual(caught.exception.row, 1)

    def test_too_many_comes_next(self):
        many = [walk(word, word) for word in "abcdefgh"]
        for call in self.CALLS:
            for book in (many, many + self.BAD):
                with self.assertRaises(TooMany) as caught:
                    call(book)
                self.assertEqual(caught.exception.many, len(lots(book)))

    def test_no_world_comes_next(self):
        for call in self.CALLS:
            for book in (self.BAD, [row("", ("meet", 1), "came", "", None)], [row("a", ("look", 1), "came", "p", True)]):
                with self.assertRaises(NoWorld) as caught:
                    call(book)
                steps, clash = caught.exception.paper
                self.assertIs(is_clash(book, steps, clash), True)
                self.assertEqual(caught.exception.paper, fold_paper(book))

    def test_no_sorting_comes_last(self):
        wrong = [
            [], [[]], [[0], [1]], [[0], [1], [2], []], [[], [0], [1], [2]], [[0], [1], [2], [3]], [[0], [1], [1, 2]], [[0], [2], [1]],
            [[0], [2, 1]], [[1], [0], [2]], [[0, 0], [1], [2]], ([0], [1], [2]), [(0,), [1], [2]], [[0], [True], [2]],
            [[False], [1], [2]], [[0], [1], ["2"]], [0, 1, 2], [[0, 1, 2], None], [[0, 1], [1, 2]], [[0, [1]], [2]], [[0], [1], [-1]],
            [[2], [0, 1]], [[0], [1, None], [2]], [[0], [deep_tuple()], [2]], [[0], deep_list(), [2]], "012", [[[0], [1], [2]]],
            [[0, 1, 2, 3]], [[0], [1], [2], [0]], [[0, True, 2]],
        ]
        history = history_of(self.BOOK)[1]
        for sorting in wrong + strange_values():
            kept = shown(sorting)
            for call in (
                lambda: sorting_paper(self.BOOK, sorting), lambda: is_sorting_paper(self.BOOK, sorting, None),
                lambda: is_sorting_paper(self.BOOK, sorting, ("history", history)),
            ):
                with self.assertRaises(NoSorting) as caught:
                    call()
                self.assertIs(caught.exception.sorting, sorting)
            self.assertEqual(shown(sorting), kept)
        for sorting in [[[0]], [[]], None, (), 0]:
            with self.assertRaises(NoSorting):
                sorting_paper([], sorting)


if __name__ == "__main__":
    unittest.main()
