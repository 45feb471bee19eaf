"""Promises 20 to 22: what calm rows tell, and whether something unseen must have happened."""

import unittest

from ownwords.doings import doings, happened, is_knowing, knows
from ownwords.errors import NoBook, NoPlace, NoRow, NoWorld
from ownwords.histories import person_at, played
from ownwords.judges import is_one, is_two
from ownwords.verdicts import who

from tests import naive, naive_trees, slow
from tests.checks import check_telling
from tests.helper import (
    PART, TIE, WALK, born, calm, changed, deep_list, deep_tuple, gone, letter, listed, lost, row, strange_values, walk,
)
from tests.plays import Dice, calm_history, changed_book, changed_lists_book, some_history, told_book

# A list tells that the neighbour has the word x, a letter ends a tie, and a list tells that x is gone.
ENDED = [listed("p q x", "a", "p"), row("b x", PART, "came", "q r", None), listed("p q", "a", "p"), ("calm", 0)]
# The same, but a tie was made in between, and x has come.
BEGUN = [listed("p q", "a", "p"), row("b", TIE, "came", "q", ("c", "x")), listed("p q x", "a", "p"), ("calm", 0)]
# Two letters may have ended the tie.
TWICE = [
    listed("p q r x", "a", "p"), row("b x", PART, "came", "q 1", None), row("c x", PART, "came", "r 2", None),
    listed("p q r", "a", "p"), ("calm", 0),
]


class DoingsCase(unittest.TestCase):
    def check_doings(self, book):
        """The answer of doings shows what it says; returns whether there is a history."""
        answer = doings(book)
        self.assertEqual(len(answer), 2)
        if answer[0] == "history":
            check_telling(self, book, answer[1])
            return True
        self.assertEqual(answer[0], "clash")
        self.assertTrue(naive_trees.is_tree(book, naive.start(book), (), None, answer[1]), answer)
        for one in naive.places(book)[:2]:
            self.assertIs(is_knowing(book, one, one, ("one", answer[1])), True)
            self.assertIs(is_knowing(book, one, one, ("two", answer[1])), True)
        return False

    def check_knows(self, book, one, other):
        """The answer of knows shows what it says; returns its first word, or None where no history has the book."""
        try:
            answer = knows(book, one, other)
        except NoWorld as error:
            self.assertTrue(naive_trees.is_tree(book, naive.start(book), (), None, error.paper))
            return None
        if answer[0] == "open":
            self.assertEqual(len(answer), 3)
            for history in answer[1:]:
                check_telling(self, book, history)
            self.assertEqual(person_at(answer[1], "me", one), person_at(answer[1], "me", other))
            self.assertNotEqual(person_at(answer[2], "me", one), person_at(answer[2], "me", other))
        else:
            self.assertIn(answer[0], ("one", "two"))
            self.assertTrue(naive_trees.is_knowing(book, one, other, answer), answer)
        self.assertIs(is_knowing(book, one, other, answer), answer[0] != "open")
        return answer[0]

    def check_all(self, book):
        """All answers about the book are those of a slow search; returns how many there are of each kind."""
        sortings = slow.sortings_of(book)
        self.assertEqual(self.check_doings(book), bool(sortings) or not book)
        found = {}
        places = naive.places(book)
        for one in places:
            for other in [place for place in places if place >= one]:
                together = [any({one, other} <= group for group in sorting) for sorting in sortings]
                wanted = None if not sortings else "one" if all(together) else "open" if any(together) else "two"
                self.assertEqual(self.check_knows(book, one, other), wanted, (book, one, other))
                found[wanted] = found.get(wanted, 0) + 1
        return found


class KnowsTest(DoingsCase):
    def test_ties_that_ended(self):
        self.check_all(ENDED)
        self.assertEqual(self.check_knows(ENDED, (0, 1), (1, 1)), "one")
        self.assertEqual(self.check_knows(ENDED, (1, 2), (0, 1)), "two")
        # Without the calm row, someone else's tie may have ended unseen.
        self.check_all(ENDED[:3])
        self.assertEqual(self.check_knows(ENDED[:3], (0, 1), (1, 1)), "open")
        self.check_all(ENDED[:1] + [("calm", 0)] + ENDED[1:3])
        self.check_all(ENDED[:3] + [("calm", 1)])
        self.assertEqual(self.check_knows(ENDED[:3] + [("calm", 1)], (0, 1), (1, 1)), "open")

    def test_ties_that_began(self):
        self.check_all(BEGUN)
        self.assertEqual(self.check_knows(BEGUN, (0, 1), (1, 1)), "one")
        self.check_all(BEGUN[:3])
        self.assertEqual(self.check_knows(BEGUN[:3], (0, 1), (1, 1)), "open")

    def test_several_letters_may_have_done_it(self):
        self.check_all(TWICE)
        self.assertEqual(self.check_knows(TWICE, (0, 1), (1, 1)), "open")
        self.assertEqual(self.check_knows(TWICE, (0, 1), (1, 2)), "two")
        # Nobody's tie ends twice.
        self.assertEqual(self.check_knows(TWICE, (1, 1), (2, 1)), "two")
        again = TWICE[:4] + [row("b", ("leave", 1), "came", "q", None), row("a", ("look", 1), "came", "p", False), ("calm", 0)]
        self.check_all(again)
        self.assertEqual(self.check_knows(again, (0, 1), (1, 1)), "two")
        self.assertEqual(self.check_knows(again, (0, 1), (2, 1)), "one")

    def test_ties_of_one_word(self):
        # Either end of the tie that ended may be the neighbour's.
        book = [listed("p q x", "a", "p"), row("b x", PART, "came", "q x", None), listed("p q", "a", "p"), ("calm", 0)]
        self.check_all(book)
        self.assertEqual(self.check_knows(book, (0, 1), (1, 1)), "open")
        self.assertEqual(self.check_knows(book, (0, 1), (1, 2)), "open")
        book.insert(3, row("b", ("leave", 1), "came", "q", None))
        book.insert(4, row("a", ("look", 1), "came", "p", False))
        self.check_all(book)
        self.assertEqual(self.check_knows(book, (0, 1), (1, 1)), "two")
        self.assertEqual(self.check_knows(book, (0, 1), (1, 2)), "one")

    def test_a_tie_of_which_both_ends_are_known(self):
        book = [walk("a x", "p y"), row("b x", PART, "came", "q y", None), lost("a x", "p"), ("calm", 0)]
        self.check_all(book)
        self.assertEqual(self.check_knows(book, (0, 2), (1, 2)), "one")
        other = [walk("a x", "p y"), row("b x", PART, "came", "q z", None), lost("a x", "p"), ("calm", 0)]
        self.assertEqual(self.check_all(other), {None: len(naive.places(other)) * (len(naive.places(other)) + 1) // 2})

    def test_changes_that_nobody_made(self):
        for book in (
            [walk("a", "p"), lost("a"), ("calm", 0)], [lost("a"), walk("a", "p"), ("calm", 0)], [listed("a"), listed(""), ("calm", 0)],
            [walk("a", "p"), row("b", PART, "came", "q", None), lost("a"), ("calm", 0)],
            [listed(""), row("a", TIE, "came", "p", ("u", "v")), listed("u w"), ("calm", 0)],
        ):
            self.assertFalse(self.check_doings(book))
            self.check_all(book)
        tree = doings([listed("a"), listed(""), ("calm", 0)])[1]
        self.assertEqual(tree, ((), ("change", (0, 0), "a", 0, 1), ()))

    def test_what_the_owner_did_is_no_wonder(self):
        for book in (
            [walk("a", "p"), row("a", PART, "came", "p", None), lost("a"), ("calm", 0)],
            [lost("u"), row("a", TIE, "came", "p", ("u", "v")), walk("u", "v"), listed("a u"), ("calm", 0)],
            [row("a", TIE, "came", "p", ("u", "v")), row("u", PART, "came", "v", None), lost("u"), listed("a"), ("calm", 0)],
            [row("a", PART, "came", "p", None), ("calm", 0), lost("a"), ("calm", 1)],
        ):
            self.assertTrue(self.check_doings(book))
            self.check_all(book)

    def test_marks_of_runs(self):
        tie, part = row("a", TIE, "came", "p", ("u", "v")), row("a", PART, "came", "p", None)
        # What was made is there at the next row, and what was ended is at none.
        self.assertFalse(self.check_doings([tie, lost("u"), ("calm", 0)]))
        self.assertTrue(self.check_doings([tie, lost("u"), ("calm", 1)]))
        self.assertTrue(self.check_doings([tie, lost("u")]))
        self.assertFalse(self.check_doings([tie, walk("", ""), lost("u"), ("calm", 0)]))
        self.assertTrue(self.check_doings([tie, walk("", ""), lost("u"), ("calm", 1)]))
        self.assertFalse(self.check_doings([part, listed("a"), ("calm", 0)]))
        self.assertFalse(self.check_doings([tie, ("calm", 0), lost("u"), ("calm", 1)]))
        self.assertTrue(self.check_doings([tie, ("calm", 0), lost("u"), ("calm", 2)]))
        # At its own row it is not there yet.
        self.assertTrue(self.check_doings([lost("u"), tie, ("calm", 0)]))

    def test_calm_rows_over_calm_rows(self):
        walks = [walk("a", "p"), lost("b"), lost("a")]
        for rows, wanted in (
            ([walks[0], ("calm", 0), walks[2], ("calm", 1)], False), ([walks[0], ("calm", 0), walks[2], ("calm", 2)], True),
            ([walks[0], walks[1], ("calm", 0), walks[2], ("calm", 2)], False),
            ([walks[0], walks[1], ("calm", 1), walks[2], ("calm", 0)], False),
            ([walks[0], walks[1], ("calm", 1), walks[2], ("calm", 3)], True),
            ([walks[0], ("calm", 0), ("calm", 1), ("calm", 0), walks[2]], True),
            ([walks[1], walks[0], ("calm", 0), walks[1], walks[2], ("calm", 4)], True),
        ):
            self.assertEqual(self.check_doings(rows), wanted, rows)
            self.check_all(rows)

    def test_met_rows(self):
        for book in (
            [("met", "a", 1), walk("a", "p"), ("calm", 1), lost("a"), ("met", "b", 2)],
            [walk("a", "p"), ("calm", 0), ("met", "a", 1), lost("a"), ("calm", 3)],
            [walk("b", "p"), ("met", "a", 1), listed("a", "b", "p"), ("calm", 2)],
        ):
            self.check_all(book)

    def test_unseen_things_wait_for_the_ends_of_runs(self):
        # The tie is there ahead of the run and gone behind it, so it was there all the while.
        book = [lost("a"), walk("", ""), walk("a", "p"), walk("", ""), ("calm", 1), lost("a")]
        self.assertTrue(self.check_doings(book))
        self.assertFalse(self.check_doings(book[:1] + [walk("", ""), walk("a", "p"), walk("", ""), ("calm", 0)]))
        self.assertTrue(self.check_doings([listed("x y"), ("calm", 0), listed("y z"), ("calm", 2), listed("z")]))
        self.assertFalse(self.check_doings([listed("x y"), listed("y z"), ("calm", 0)]))

    def test_books_without_calm_rows(self):
        for number in range(40):
            book = played(some_history(number, 2 + number % 6))["me"]
            if number % 3 == 0:
                book = changed_book(number, book)
            dice = Dice(number)
            self.check_doings(book)
            places = naive.places(book)
            for _ in range(6):
                one, other = dice.pick(places), dice.pick(places)
                kind = self.check_knows(book, one, other)
                if kind is None:
                    with self.assertRaises(NoWorld) as caught:
                        knows(book, one, other)
                    self.assertEqual(len(caught.exception.paper), 2)
                    continue
                self.assertEqual(kind, who(book, one, other)[0])
                answer = knows(book, one, other)
                if kind == "one":
                    self.assertEqual(answer[1][1], ("same",))
                    self.assertIs(is_one(book, one, other, ("one", answer[1][0])), True)
                if kind == "two":
                    self.assertIs(is_two(book, one, other, ("two",) + answer[1]), True)

    def test_the_empty_book(self):
        self.assertEqual(doings([]), ("history", (1, (("me", 0),), ())))
        with self.assertRaises(NoPlace):
            knows([], (0, 0), (0, 0))

    def test_the_same_place_twice(self):
        for book in (ENDED, BEGUN, TWICE, [walk("", ""), ("calm", 0)], [("met", "a", 1)]):
            for place in naive.places(book):
                self.assertEqual(self.check_knows(book, place, place), "one")
                self.assertIs(is_knowing(book, place, place, ("one", ((), ("same",)))), True)
        book = [walk("a", "p"), lost("a"), ("calm", 0)]
        for place in naive.places(book):
            with self.assertRaises(NoWorld) as caught:
                knows(book, place, place)
            self.assertIs(is_knowing(book, place, place, ("one", caught.exception.paper)), True)
            self.assertIs(is_knowing(book, place, place, ("two", caught.exception.paper)), True)
            self.assertIs(is_knowing(book, place, place, ("one", ((), ("same",)))), True)


class ManyBooksTest(DoingsCase):
    def check_many(self, books, small=9):
        found = {}
        sizes = {}
        for book in books:
            if sum(len(naive.backs(one)) for one in book) <= small:
                for kind, many in self.check_all(book).items():
                    found[kind] = found.get(kind, 0) + many
                answer = doings(book)
                size = naive_trees.size(answer[1]) if answer[0] == "clash" else 0
                sizes[size] = sizes.get(size, 0) + 1
        return found, sizes

    def test_books_that_were_played(self):
        found, _ = self.check_many([played(some_history(number, 3 + number % 4, calm=True))["me"] for number in range(70)], 6)
        self.assertNotIn(None, found)
        found, _ = self.check_many([played(calm_history(number, 3 + number % 3))["me"] for number in range(70)], 6)
        self.assertNotIn(None, found)
        self.assertGreater(found["open"], 10)

    def test_books_that_nobody_played(self):
        found, sizes = self.check_many([told_book(number, 3 + number % 3) for number in range(90)])
        self.assertEqual(set(found), {"one", "two", "open", None})
        self.assertGreater(sizes[0], 10)

    def test_books_whose_lists_change(self):
        found, sizes = self.check_many([changed_lists_book(number) for number in range(70)])
        self.assertEqual(set(found), {"one", "two", "open", None})
        self.assertGreater(sizes[0], 10)
        self.assertGreater(max(sizes), 2)

    def test_bigger_books(self):
        for number in range(60):
            dice = Dice(number)
            book = played(calm_history(number, 7))["me"] if number % 2 else told_book(number, 7)
            self.check_doings(book)
            places = naive.places(book)
            for _ in range(3):
                self.check_knows(book, dice.pick(places), dice.pick(places))

    def test_the_bounds(self):
        way, backs = "a b c d e f g", "1 2 3 4 5 6 7"
        parts = [row(way + " " + word, PART, "came", backs + " " + back, None) for word, back in (("h", "8"), ("i", "9"), ("j", "z"))]
        tie = row(way + " k", TIE, "came", backs + " y", ("u", "v"))
        rows = [listed("p x", "b", "p"), *parts, tie, listed("p v", "b", "p"), walk(way, backs), ("calm", 0)]
        self.assertEqual(len(rows), 8)
        self.assertFalse(self.check_doings(rows))
        rows[0], rows[5] = listed("h p", "b", "p"), listed("p u", "b", "p")
        self.assertFalse(self.check_doings(rows))
        rows[0], rows[5] = listed("7 h i j k p", "b", "p"), listed("7 k p", "b", "p")
        self.assertTrue(self.check_doings(rows))
        self.assertEqual(self.check_knows(rows, (0, 1), (1, 7)), "one")
        self.assertEqual(self.check_knows(rows, (0, 1), (6, 6)), "two")
        self.assertEqual(self.check_knows(rows[:7], (0, 1), (1, 7)), "open")
        for i in range(7):
            for j in range(i, 7):
                answer = happened(rows[:7], i, j)
                self.assertEqual((answer[0], len(answer)), ("perhaps", 2))
                check_telling(self, rows[:j + 1] + [("calm", i)] + rows[j + 1:7], answer[1])

    def test_what_was_so_is_open_or_known(self):
        for number in range(80):
            history, dice = calm_history(number, 6), Dice(number)
            book = played(history)["me"]
            places = naive.places(book)
            self.assertEqual(doings(book)[0], "history")
            for _ in range(4):
                one, other = dice.pick(places), dice.pick(places)
                same = person_at(history, "me", one) == person_at(history, "me", other)
                self.assertIn(knows(book, one, other)[0], ("open", "one" if same else "two"))

    def test_what_is_known_stays_known(self):
        for number in range(40):
            book, dice = played(calm_history(number, 6))["me"], Dice(number)
            one, other = dice.pick(naive.places(book)), dice.pick(naive.places(book))
            kinds = [knows(book[:end], one, other)[0] for end in range(max(one[0], other[0]) + 1, len(book) + 1)]
            while kinds and kinds[0] == "open":
                kinds.pop(0)
            self.assertLessEqual(len(set(kinds)), 1)


class JudgeTest(unittest.TestCase):
    def check(self, wanted, book, one, other, *things):
        for thing in things:
            self.assertIs(is_knowing(book, one, other, thing), wanted, thing)
            self.assertIs(is_knowing(book, other, one, thing), wanted, thing)
            self.assertIs(naive_trees.is_knowing(book, one, other, thing), wanted, thing)

    SAME = ((), ("same",))

    def test_branches(self):
        change = ("change", (0, 1), "x", 0, 2)
        branch = ((1, 2, 0), self.SAME)
        tied = (("tie", (0, 1, 0), (2, 1, 0)),)
        self.check(True, ENDED, (0, 1), (1, 1), ("one", (tied, change, (branch,))), ("one", (tied + tied, change, (branch,))))
        self.check(True, ENDED, (0, 1), (1, 1), ("one", (tied, ("change", (2, 1), "x", 0, 2), (branch,))))
        self.check(True, ENDED, (0, 1), (1, 1), ("one", (tied, change, (((1, 2, 0), (tied, ("same",))),))))
        # Ahead of the step that merges its two places, the list of row 2 speaks of another lot.
        self.check(False, ENDED, (0, 1), (1, 1), ("one", ((), change, (branch,))))

    def test_other_papers(self):
        tied = (("tie", (2, 1, 0), (0, 1, 0)),)
        change = ("change", (0, 1), "x", 0, 2)
        branch = ((1, 2, 0), self.SAME)
        for thing in (
            ("one", (tied, change, ())), ("one", (tied, change, (branch, branch))), ("one", (tied, change, [branch])),
            ("one", (tied, change, (((1, 2, 1), self.SAME),))), ("one", (tied, change, (((1, 1, 0), self.SAME),))),
            ("one", (tied, change, (((True, 2, 0), self.SAME),))), ("one", (tied, change, ((*branch, ()),))),
            ("one", (tied, change, (((1, 2, 0),),))), ("one", (tied, change, branch)), ("one", (tied, change)),
            ("one", (tied, change, (branch,), ())), ("one", (list(tied), change, (branch,))), ("two", (tied, change, (branch,))),
            ("one", (tied, ("change", (0, 1), "x", 0, 1), (branch,))), ("one", (tied, ("change", (0, 1), "x", 1, 2), (branch,))),
            ("one", (tied, ("change", (0, 1), "x", 2, 0), (branch,))), ("one", (tied, ("change", (0, 1), "p", 0, 2), (branch,))),
            ("one", (tied, ("change", (1, 1), "x", 0, 2), (branch,))), ("one", (tied, ("change", (0, 2), "x", 0, 2), (branch,))),
            ("one", (tied, ("change", (0, 1), "x", False, 2), (branch,))), ("one", (tied, ("change", (0, 1), "x", 0, 3), (branch,))),
            ("one", (tied, ("change", (0, 1), "x", 0, 9), (branch,))), ("one", (tied, ("change", (0, 1), "?", 0, 2), (branch,))),
            ("one", (tied, ("change", (0, 1), "x", 0), (branch,))), ("one", (tied, change[1:], (branch,))), ("one", (tied, None, (branch,))),
            ("one", (tied, ("same",))), ("one", (tied, ("same", 0))), ("one", self.SAME), ("one", ()), ("one", tied), ("one",), ("two", ()),
            ("open", (tied, change, (branch,))), ("one", (tied, change, (((1, 2, 0), ((("put", 0),), ("same",))),))),
            ("one", ((("put", 0),) + tied, change, (branch,))), ("one", ((("put", 0),), ("same",))),
        ):
            self.check(False, ENDED, (0, 1), (1, 1), thing)
        self.check(True, ENDED, (0, 1), (1, 1), ("one", (tied, change, (branch,))))
        self.check(False, ENDED, (0, 1), (0, 0), ("one", (tied, change, (branch,))))

    def test_leaves(self):
        tied = (("tie", (2, 1, 0), (0, 1, 0)),)
        change = ("change", (2, 1), "x", 0, 2)
        put = (("put", 0),)
        # If the neighbour were the one behind the tie that ended, the tie would be one with oneself.
        for steps in (put + tied, tied + put, put + put + tied):
            tree = (steps, change, (((1, 2, 0), ((), ("loop", (1, 2)))),))
            self.check(True, ENDED, (0, 1), (1, 2), ("two", tree))
            self.check(False, ENDED, (0, 1), (1, 2), ("one", tree), ("two", tree[:2]), ("two", (steps, ("loop", (1, 2)))))
            self.check(False, ENDED, (0, 1), (1, 1), ("two", tree))
        # The put may come later, too.
        tree = (tied, change, (((1, 2, 0), (put, ("loop", (1, 2)))),))
        self.check(True, ENDED, (0, 1), (1, 2), ("two", tree))
        self.check(False, ENDED, (0, 1), (1, 2), ("two", (tied, change, (((1, 2, 0), ((), ("loop", (1, 2)))),))))
        self.check(False, ENDED, (0, 1), (1, 2), ("two", (tied, change, (((1, 2, 0), (put, ("same",))),))))

    def test_trees_without_leaves(self):
        book = [walk("a", "p"), lost("a"), walk("b", "q"), ("calm", 0)]
        for place, word in (((0, 0), "a"), ((3, 0), "a"), ((0, 1), "p")):
            tree = ((), ("change", place, word, 0, 1), ())
            for one, other in (((0, 1), (2, 1)), ((0, 0), (0, 1)), ((0, 0), (0, 0))):
                self.check(True, book, one, other, ("one", tree), ("two", tree))
        tree = ((), ("change", (0, 1), "a", 0, 1), ())
        self.check(False, book, (0, 1), (2, 1), ("one", tree), ("two", tree), ("one", ((), ("change", (0, 0), "a", 0, 2), ())))
        # The row of a calm is one of the run, but nothing is known of the tie there.
        self.check(False, book, (0, 1), (2, 1), ("one", ((), ("change", (0, 0), "a", 0, 3), ())))
        self.check(False, book[:3], (0, 1), (2, 1), ("one", ((), ("change", (0, 0), "a", 0, 1), ())))
        self.check(False, book[:3] + [("calm", 1)], (0, 1), (2, 1), ("one", ((), ("change", (0, 0), "a", 0, 1), ())))

    def test_rows_of_a_change(self):
        def check(wanted, book, start, end, word="a"):
            tree = ((), ("change", (0, 0), word, start, end), ())
            self.check(wanted, book, (0, 0), (0, 0), ("one", tree), ("two", tree))
        book = [walk("a", "p"), walk("", ""), lost("a"), ("calm", 0), lost("a"), walk("b", "q"), walk("a", "p"), ("calm", 4)]
        for start, end, wanted in (
            (0, 2, True), (2, 0, False), (0, 0, False), (2, 2, False), (1, 2, False), (0, 1, False), (0, 3, False), (3, 2, False),
            (4, 6, True), (6, 4, False), (5, 6, False), (4, 5, False), (0, 4, False), (2, 6, False), (4, 7, False), (6, 6, False),
        ):
            check(wanted, book, start, end)
        # In one run all of this counts.
        joined = book + [("calm", 0)]
        for start, end, wanted in ((0, 4, True), (2, 6, True), (4, 2, False), (6, 0, False), (1, 6, False), (0, 8, False)):
            check(wanted, joined, start, end)
        # A row at which the tie is living and lacking is no change.
        both = [listed("", "a", "p"), walk("", ""), ("calm", 0)]
        for start, end in ((0, 0), (0, 1), (1, 0), (1, 1)):
            check(False, both, start, end)
        check(True, [both[0], walk("", ""), both[0], ("calm", 0)], 0, 2)
        # What the letter of the last row did is no reason, even if the book contradicts itself.
        part = row("a", PART, "came", "p", None)
        check(True, [part, walk("a", "p"), part, ("calm", 0)], 1, 2)
        check(False, [part, walk("a", "p"), part, ("calm", 0)], 0, 2)
        check(True, [lost("u"), row("u", TIE, "came", "v", ("u", "v")), ("calm", 0)], 0, 1, "u")
        check(False, [lost("u"), row("a", TIE, "came", "p", ("u", "v")), walk("u", "v"), ("calm", 0)], 0, 2, "u")

    def test_changes_within_changes(self):
        tied = (("tie", (0, 1, 0), (3, 1, 0)),)
        change = ("change", (0, 1), "x", 0, 3)
        again = TWICE[:4] + [row("b", ("leave", 1), "came", "q", None), row("a", ("look", 1), "came", "p", False), ("calm", 0)]
        back = (("tie", (0, 1, 0), (5, 1, 0)), ("tie", (1, 1, 0), (4, 1, 0)))
        branches = (((1, 2, 0), (back, ("apart", 5))), ((2, 2, 0), ((), ("same",))))
        self.check(True, again, (0, 1), (2, 1), ("one", (tied, change, branches)), ("one", (tied + back, change, branches)))
        self.check(False, again, (0, 1), (1, 1), ("one", (tied, change, branches)))
        self.check(False, again, (0, 1), (2, 1), ("one", (tied, change, branches[::-1])), ("one", (tied, change, branches[:1])))
        self.check(False, again, (0, 1), (2, 1), ("one", (tied, change, branches[1:])), ("one", (tied, change, branches + branches)))
        # Both have to be shown.
        self.check(False, again, (0, 1), (2, 1), ("one", (tied, change, (((1, 2, 0), ((), ("same",))), branches[1]))))

    def test_ties_that_seem_to_end_and_to_begin(self):
        # Each list is reached along a tie that it does not know, so the tie is there and is not, first and last.
        first, part = listed("", "a", "p"), row("a", PART, "came", "p", None)
        tree = ((), ("change", (0, 0), "a", 0, 2), ())
        self.check(True, [first, walk("", ""), first, ("calm", 0)], (0, 0), (0, 1), ("one", tree), ("two", tree))
        # It ended by the owner's own letter, so its end is no wonder; and then its beginning does not count.
        self.check(False, [first, part, first, ("calm", 0)], (0, 0), (0, 1), ("one", tree), ("two", tree))
        # Here it only seems to begin.
        self.check(True, [lost("a"), part, walk("a", "p"), ("calm", 0)], (0, 0), (1, 1), ("one", tree), ("two", tree))

    def test_answers_that_differ_a_little(self):
        for book, one, other in (
            (ENDED, (0, 1), (1, 1)), (ENDED, (0, 1), (1, 2)), (BEGUN, (0, 1), (1, 1)), (TWICE, (0, 1), (1, 2)),
            ([walk("a x", "p y"), row("b x", PART, "came", "q y", None), lost("a x", "p"), ("calm", 0)], (0, 2), (1, 2)),
        ):
            answer = knows(book, one, other)
            for thing in changed(answer)[::3]:
                self.assertIs(is_knowing(book, one, other, thing), naive_trees.is_knowing(book, one, other, thing), thing)

    def test_many_answers_that_differ_a_little(self):
        for number in range(30):
            book, dice = changed_lists_book(number), Dice(number)
            one, other = dice.pick(naive.places(book)), dice.pick(naive.places(book))
            try:
                answer = knows(book, one, other)
            except NoWorld as error:
                answer = (dice.pick(("one", "two")), error.paper)
            for thing in changed(answer)[dice.throw(37)::37] if answer[0] != "open" else ():
                self.assertIs(is_knowing(book, one, other, thing), naive_trees.is_knowing(book, one, other, thing), thing)

    def test_values_of_all_kinds(self):
        tied = (("tie", (2, 1, 0), (0, 1, 0)),)
        change = ("change", (0, 1), "x", 0, 2)
        for value in strange_values():
            for thing in (
                value, ("one", value), ("two", value), ("one", (value, ("same",))), ("one", ((value,), ("same",))), ("one", (tied, value)),
                ("one", (tied, value, ())), ("one", (tied, change, value)), ("one", (tied, change, (value,))),
                ("one", (tied, change, ((value, self.SAME),))), ("one", (tied, change, (((1, 2, 0), value),))),
                ("one", (tied, ("change", value, "x", 0, 2), (((1, 2, 0), self.SAME),))), ("two", (tied, ("words", value, value))),
                ("one", (tied, ("change", (0, 1), value, 0, 2), (((1, 2, 0), self.SAME),))), ("two", (tied, (value,))),
                ("one", (tied, ("change", (0, 1), "x", value, 2), (((1, 2, 0), self.SAME),))), ("two", (tied, ("loop", value))),
                ("one", (tied, ("change", (0, 1), "x", 0, value), (((1, 2, 0), self.SAME),))), (value, (tied, ("same",))),
            ):
                self.assertIs(is_knowing(ENDED, (0, 1), (1, 1), thing), False)


class HappenedTest(DoingsCase):
    def check(self, wanted, book, i, j):
        answer = happened(book, i, j)
        longer = book[:j + 1] + [("calm", i)] + book[j + 1:]
        self.assertEqual((answer[0], len(answer)), (wanted, 2))
        self.assertEqual(wanted == "perhaps", slow.alone(longer).is_possible())
        if wanted == "perhaps":
            check_telling(self, longer, answer[1])
            self.check_nothing_unseen(answer[1], i, j)
        else:
            self.assertTrue(naive_trees.is_tree(longer, naive.start(longer), (), None, answer[1]))

    def check_nothing_unseen(self, history, i, j):
        """Between the letters of these rows nothing happened but letters and the calm."""
        own = [number for number, event in enumerate(history[2]) if event[0] == "calm" or event[1] == "me" and event[0] == "letter"]
        between = [event[0] for event in history[2][own[i]:own[j] + 1]]
        self.assertNotIn("born", between)
        self.assertNotIn("gone", between)

    def test_surely(self):
        self.check("surely", [walk("a", "p"), lost("a")], 0, 1)
        self.check("surely", [lost("a"), walk("a", "p")], 0, 1)
        self.check("surely", [walk("a", "p"), walk("", ""), listed("b")], 0, 2)
        self.check("surely", [row("a", TIE, "came", "p", ("u", "v")), lost("u")], 0, 1)
        self.check("surely", ENDED[:1] + ENDED[2:3], 0, 1)
        self.check("surely", [listed("p q x", "a", "p"), row("b y", PART, "came", "q r", None), listed("p q", "a", "p")], 0, 2)

    def test_perhaps(self):
        self.check("perhaps", [walk("a", "p")], 0, 0)
        self.check("perhaps", [walk("a", "p"), lost("a")], 0, 0)
        self.check("perhaps", [walk("a", "p"), lost("a")], 1, 1)
        self.check("perhaps", [walk("a", "p"), lost("b"), listed("a")], 0, 2)
        self.check("perhaps", [walk("a", "p"), row("a", PART, "came", "p", None), lost("a")], 0, 2)
        self.check("perhaps", [row("a", TIE, "came", "p", ("u", "v")), walk("u", "v"), listed("a u")], 0, 2)
        self.check("perhaps", ENDED[:3], 0, 2)
        self.check("perhaps", BEGUN[:3], 0, 2)
        self.check("perhaps", TWICE[:4], 0, 3)
        self.check("perhaps", [walk("a", "p"), walk("", ""), lost("a"), walk("", "")], 0, 1)
        self.check("perhaps", [walk("a", "p"), walk("", ""), lost("a"), walk("", "")], 2, 3)

    def test_ahead_of_met_rows_and_behind_them(self):
        book = [walk("a", "p"), walk("", ""), ("met", "b", 1), lost("a"), walk("b", "q"), lost("b")]
        self.check("perhaps", book, 0, 1)
        self.check("perhaps", book, 3, 4)
        self.check("surely", book, 3, 5)
        self.check("surely", book, 4, 5)

    def test_later_rows_count_too(self):
        # Only the last row tells that the first neighbour is the one whose tie ended.
        book = [
            row("a", ("leave", 1), "came", "p", None), walk("a x", "p y"), walk("b", "q"), lost("b x", "q"),
            row("b", ("look", 1), "came", "q", True),
        ]
        self.check("surely", book, 1, 3)
        self.check("perhaps", book[:4], 1, 3)
        self.check("perhaps", book, 2, 3)

    def test_all_pairs_of_rows(self):
        found = {"surely": 0, "perhaps": 0}
        for number in range(60):
            book = told_book(number, 4)[:-1] if number % 2 else played(some_history(number, 4))["me"]
            if sum(len(naive.backs(one)) for one in book) > 7 or not slow.alone(book).is_possible():
                continue
            for i in range(len(book)):
                for j in range(i, len(book)):
                    if all(told[0] != "met" for told in book[i:j + 1]):
                        longer = book[:j + 1] + [("calm", i)] + book[j + 1:]
                        wanted = "perhaps" if slow.alone(longer).is_possible() else "surely"
                        self.check(wanted, book, i, j)
                        found[wanted] += 1
        self.assertGreater(min(found.values()), 10)

    def test_what_happened_in_a_history(self):
        history = (3, (("me", 0),), (
            born(0, "a", 1, "p"), born(1, "b", 2, "q"), letter("me", "a b", *WALK), gone(1, "b"), letter("me", "a b", *WALK),
            letter("me", "a", "part"), letter("me", "", "list"),
        ))
        book = played(history)["me"]
        for i, j, wanted in ((0, 0, "perhaps"), (0, 1, "surely"), (1, 3, "perhaps"), (2, 3, "perhaps"), (0, 3, "surely")):
            self.check(wanted, book, i, j)
        # Told so, the owner would know it for good.
        told = (3, history[1], history[2] + (calm("me", 1),))
        self.assertEqual(doings(played(told)["me"])[0], "history")


class ErrorsTest(unittest.TestCase):
    BOOK = [walk("a", "b"), lost("c d", "e"), ("calm", 1)]
    BAD = [walk("a", "b"), walk("a", "c")]

    def test_no_book_comes_first(self):
        for call in (
            doings, lambda book: knows(book, None, None), lambda book: knows(book, (0, 0), (0, 0)), lambda book: happened(book, 0, 0),
            lambda book: happened(book, None, None), lambda book: is_knowing(book, None, None, None),
            lambda book: is_knowing(book, (0, 0), (0, 0), ("one", ((), ("same",)))),
        ):
            for book, number in ((None, None), ((), None), ({}, None), ([None], 0), (self.BAD + [("calm", 2)], 2)):
                with self.assertRaises(NoBook) as caught:
                    call(book)
                self.assertEqual((caught.exception.name, caught.exception.row), (None, number))
            for value in strange_values():
                with self.assertRaises(NoBook) as caught:
                    call([walk("", ""), value])
                self.assertEqual(caught.exception.row, 1)

    def test_places_come_next(self):
        wrong = [(0, 2), (2, 1), (3, 0), (-1, 0), (True, 0), (0, True), (0, 0, 0), [0, 0], (deep_tuple(), 0), (0, deep_list())]
        for call in (
            lambda place: knows(self.BOOK, place, None), lambda place: knows(self.BOOK, (0, 0), place),
            lambda place: knows(self.BAD, (0, 0), place), lambda place: is_knowing(self.BOOK, place, None, None),
            lambda place: is_knowing(self.BOOK, (0, 0), place, ("one", ((), ("same",)))),
        ):
            for place in [value for value in strange_values() if value != (0, 0)] + wrong + [(False, 0)]:
                with self.assertRaises(NoPlace) as caught:
                    call(place)
                self.assertIs(caught.exception.place, place)
        with self.assertRaises(NoPlace) as caught:
            knows(self.BOOK, (9, 1), (9, 2))
        self.assertEqual(caught.exception.place, (9, 1))

    def test_rows(self):
        book = [walk("a", "b"), ("met", "c", 1), lost("d"), walk("", "")]
        for value in [4, -1, True, False, "0", (0,), [0], None] + [value for value in strange_values()]:
            for i, j, row_told in ((value, 0, value), (0, value, value), (value, value, value), (value, 99, value)):
                with self.assertRaises(NoRow) as caught:
                    happened(book, i, j)
                self.assertIs(caught.exception.row, row_told)
        for i, j in ((1, 1), (0, 1), (0, 3), (1, 3), (1, 2), (3, 2), (2, 0), (3, 0)):
            with self.assertRaises(NoRow) as caught:
                happened(book, i, j)
            self.assertEqual(caught.exception.row, i)
        with self.assertRaises(NoRow) as caught:
            happened(book, 3, 9)
        self.assertEqual(caught.exception.row, 9)
        for i, j in ((0, 0), (2, 2), (2, 3), (3, 3)):
            self.assertEqual(happened(book, i, j)[0], "perhaps")
        with self.assertRaises(NoRow):
            happened([], 0, 0)

    def test_no_world_comes_last(self):
        for book in (self.BAD, [row("", ("meet", 1), "came", "", None), walk("", "")]):
            for i, j in ((0, 0), (0, 1), (1, 1)):
                with self.assertRaises(NoWorld) as caught:
                    happened(book, i, j)
                steps, clash = caught.exception.paper
                self.assertTrue(naive_trees.is_tree(book, naive.start(book), (), None, (steps, clash)))
            with self.assertRaises(NoRow):
                happened(book, 1, 0)
            with self.assertRaises(NoWorld) as caught:
                knows(book, (0, 0), (1, 0))
            self.assertTrue(naive_trees.is_tree(book, naive.start(book), (), None, caught.exception.paper))


if __name__ == "__main__":
    unittest.main()
