"""Promise 12: histories of a book, and the judge of them."""

import unittest

from ownwords.clashes import clash_of, fold_paper
from ownwords.errors import NoBook
from ownwords.histories import person_at, played
from ownwords.worlds import history_of, is_history_of

from tests.checks import check_history
from tests.helper import LIST, PART, TIE, WALK, born, calm, gone, letter, row, strange_values, walk


class HistoryOfTest(unittest.TestCase):
    def check(self, *book):
        """The book has a history; returns it."""
        answer = history_of(list(book))
        self.assertEqual((len(answer), answer[0]), (2, "history"))
        check_history(self, list(book), answer[1])
        return answer[1]

    def test_the_empty_book(self):
        people, owners, events = self.check()
        self.assertEqual((people, events), (1, ()))
        self.assertEqual(owners, (("me", 0),))

    def test_one_row(self):
        self.check(walk("", ""))
        self.check(walk("a", "b"))
        self.check(walk("a b c", "d e f"))
        self.check(walk("a b a b", "b a b a"))
        self.check(row("a", WALK, "lost", ""))
        self.check(row("a b c", WALK, "lost", "d"))
        self.check(("met", "a", 10 ** 30 - 1))
        self.check(row("", LIST, "came", "", ("a", "b", "c")))
        self.check(row("", LIST, "came", "", ()))
        self.check(row("a", LIST, "came", "b", ("b", "c")))

    def test_words_come_and_go(self):
        self.check(row("a", WALK, "lost", ""), walk("a", "b"), row("a", WALK, "lost", ""))
        self.check(
            row("", LIST, "came", "", ()), row("", LIST, "came", "", ("a",)), row("", LIST, "came", "", ("a", "b")),
            row("", LIST, "came", "", ("b",)), row("", LIST, "came", "", ()),
        )
        self.check(walk("a b", "c d"), row("a", LIST, "came", "c", ("c",)), row("a b", WALK, "lost", "c"), walk("a", "c"))

    def test_marks(self):
        left = row("a", ("leave", 1), "came", "b", None)
        history = self.check(left, row("c", ("look", 1), "came", "d", True), row("e", ("look", 1), "came", "f", False))
        self.assertEqual(person_at(history, "me", (0, 1)), person_at(history, "me", (1, 1)))
        self.assertNotEqual(person_at(history, "me", (0, 1)), person_at(history, "me", (2, 1)))
        self.check(row("a", ("leave", 1), "lost", ""), row("c", ("look", 1), "came", "d", False))
        self.check(row("c", ("look", 1), "came", "d", False), left)
        self.check(row("", ("leave", 1), "came", "", None), row("a b", ("look", 1), "came", "b a", True))

    def test_ties_made_and_ended(self):
        tie, lost = row("a", TIE, "came", "b", ("u", "v")), row("u", WALK, "lost", "")
        self.check(tie)
        self.check(tie, walk("u", "v"), walk("a v", "b u"))
        self.check(tie, lost, row("a", PART, "came", "b", None), row("a", WALK, "lost", ""))
        self.check(tie, row("u", PART, "came", "v", None), lost)
        self.check(lost, tie, lost)
        self.check(lost, tie, walk("u", "v"), row("a v", PART, "came", "b u", None), row("", LIST, "came", "", ()))
        self.check(row("a b", PART, "lost", "c"), walk("a", "c"))

    def test_tie_letters_that_made_nothing(self):
        for book in (
            [row("a", TIE, "lost", "")], [row("a b", TIE, "lost", "c"), row("a b", TIE, "lost", "c")],
            [row("", TIE, "came", "", "self")], [row("a b", TIE, "came", "b a", "self")],
            [row("a", TIE, "lost", ""), walk("a", "b"), row("a", TIE, "lost", ""), row("", TIE, "came", "", "self")],
        ):
            self.check(*book)

    def test_self(self):
        history = self.check(row("a b c", ("meet", 1), "came", "x y z", "self"))
        self.assertEqual(person_at(history, "me", (0, 3)), person_at(history, "me", (0, 0)))
        self.check(row("a b c", TIE, "came", "x y z", "self"), row("", ("meet", 1), "came", "", "self"))

    def test_meet_letters(self):
        def meet(way, backs, sign, thing):
            return row(way, ("meet", sign), "came", backs, thing)
        self.check(meet("a", "b", 1, None))
        self.check(meet("a", "b", 1, "met"))
        self.check(meet("a", "b", 1, "met"), meet("a", "b", 2, "met"), meet("c", "d", 3, None), meet("e", "f", 4, "met"))
        self.check(row("a c", ("meet", 1), "lost", "b"), meet("a b", "b a", 2, "self"))

    def test_met_rows(self):
        met = ("met", "a", 0)
        self.check(met, ("met", "a", 1), ("met", "b", 2))
        self.check(met, row("a", WALK, "lost", ""))
        self.check(row("a", WALK, "lost", ""), met, row("", LIST, "came", "", ()))
        self.check(met, walk("a", "b"), row("a", LIST, "came", "b", ("b",)))
        self.check(row("a", LIST, "came", "b", ("b",)), met, row("a", LIST, "came", "b", ("b",)))
        self.check(walk("a", "b"), met, row("a", ("meet", 9), "came", "b", "met"), ("met", "a", 2))
        self.check(walk("a", "b"), met, row("a", ("meet", 9), "came", "b", None), ("met", "a", 2))
        self.check(row("a", TIE, "came", "b", ("u", "v")), ("met", "u", 1), row("u", PART, "came", "v", None))
        self.check(row("", ("meet", 5), "came", "", "self"), ("met", "a", 6), ("met", "c", 7))

    def test_words_and_names_that_are_taken(self):
        # The words that come first when one looks for new ones are all in the book already.
        signs = "abcdefghijklmnopqrstuvwxyz0123456789"
        book = [row("", LIST, "came", "", tuple(sorted(signs))), row("a", LIST, "came", "b", tuple(sorted(signs)))]
        self.check(*book, ("met", "a", 1), ("met", "b", 2), ("met", "9", 3))
        self.check(*[row("a" + str(number), ("meet", number), "came", "b", "met") for number in range(12)])

    def test_twelve_rows(self):
        words = tuple(sorted("w" + str(number) for number in range(38))) + ("x", "y")
        self.check(*[row("a b c d e f g h", LIST, "came", "1 2 3 4 5 6 7 8", ("8",) + words[:39]) for _ in range(12)])
        self.check(*[row("a a a a a a a a", ("leave", n), "came", "b b b b b b b b", None) for n in range(12)])
        self.check(*[("met", "a" + str(number // 2), number) for number in range(12)])

    def test_more_than_twelve_rows(self):
        self.check(*[row("x" + str(number), ("meet", number), "came", "y", "met") for number in range(30)])
        self.check(*[("met", "a" + str(number), number) for number in range(30)])

    def test_books_that_were_played(self):
        history = (4, (("ann", 2), ("me", 0), ("bob", 1)), (
            born(0, "a", 1, "b"), born(1, "c", 2, "d"), born(2, "e", 3, "f"), letter("me", "a c e", "leave", 1),
            letter("me", "a", "meet", 1), letter("bob", "b", "meet", 2), letter("me", "a c", "list"), gone(2, "e"),
            letter("me", "a c e", *WALK), letter("ann", "d b", "meet", 3), letter("me", "a c", "tie", "g", "h"),
            born(2, "i", 3, "j"), letter("me", "g i", "look", 1), letter("me", "g i j", "part"), letter("me", "g", "list"),
        ))
        book = played(history)["me"]
        self.assertEqual(len(book), 10)
        self.check(*book)
        self.assertIs(is_history_of(book, history), True)


class ClashTest(unittest.TestCase):
    def test_books_without_a_history(self):
        for book in (
            [walk("a", "b"), walk("a", "c")], [row("", TIE, "came", "", ("u", "v"))],
            [row("", ("leave", 1), "came", "", None), row("", ("look", 1), "came", "", False)],
            [row("a", ("look", 1), "came", "b", True)], [row("", ("meet", 1), "came", "", None)],
            [walk("a", "b"), row("a", WALK, "lost", ""), walk("a", "b")],
        ):
            self.assertEqual(history_of(book), ("clash",) + fold_paper(book))
            self.assertEqual(history_of(book)[2], clash_of(book))
            self.assertIsNotNone(history_of(book)[2])


class JudgeTest(unittest.TestCase):
    BOOK = [walk("a", "b"), row("a", LIST, "came", "b", ("b",)), ("met", "a", 1), row("a", ("look", 1), "came", "b", False)]
    EVENTS = (
        born(0, "a", 1, "b"), letter("me", "a", *WALK), letter("me", "a", "list"), letter("you", "b", "meet", 1),
        letter("me", "a", "look", 1),
    )
    HISTORY = (2, (("me", 0), ("you", 1)), EVENTS)

    def test_histories_of_the_book(self):
        people, owners, events = self.HISTORY
        for history in (
            self.HISTORY, history_of(self.BOOK)[1], (9, owners, events), (9, owners + (("ann", 5),), events),
            (3, owners, (born(2, "a", 1, "z"), gone(1, "z")) + events + (letter("you", "b", *WALK), gone(0, "a"))),
            (2, owners[::-1], events),
        ):
            self.assertIs(is_history_of(self.BOOK, history), True)
        self.assertIs(is_history_of([], (1, (("me", 0),), ())), True)

    def test_histories_of_other_books(self):
        people, owners, events = self.HISTORY
        for history in (
            (people, owners, events[:-1]), (people, owners, events + (letter("me", "", *WALK),)), (people, (("you", 1),), ()),
            (people, owners, events[1:]), (people, (("me", 1), ("you", 0)), events), (people, (("ann", 0), ("you", 1)), ()),
            (people, owners, events[:4] + (letter("me", "a", "look", 2),)), (people, owners, ()), (1, (), ()),
            (people, owners, (events[0], events[2], events[1]) + events[3:]),
        ):
            self.assertIs(is_history_of(self.BOOK, history), False)
        self.assertIs(is_history_of([], (1, (), ())), False)
        self.assertIs(is_history_of([], (1, (("you", 0),), ())), False)
        self.assertIs(is_history_of([], self.HISTORY), False)

    def test_books_with_calm_rows(self):
        book = [walk("a", "b"), ("calm", 0)]
        owners, events = (("me", 0),), (born(0, "a", 1, "b"), letter("me", "a", *WALK), calm("me", 0))
        self.assertIs(is_history_of(book, (2, owners, events)), True)
        self.assertIs(is_history_of(book, (2, owners, events[:2])), False)
        self.assertIs(is_history_of(book[:1], (2, owners, events)), False)
        self.assertIs(is_history_of(book, (2, owners, events[:2] + (gone(0, "a"), calm("me", 0)))), False)

    def test_books_without_a_history(self):
        self.assertIs(is_history_of([walk("a", "b"), walk("a", "c")], self.HISTORY), False)

    def test_invalid_histories(self):
        people, owners, events = self.HISTORY
        for thing in (
            None, list(self.HISTORY), self.HISTORY[:2], self.HISTORY + (None,), (True, owners, events), (0, owners, events),
            (people, list(owners), events), (people, owners, list(events)), (people, owners + (("me", 1),), events),
            (people, owners, events + (None,)), (people, owners, events + (gone(0, "z"),)), ("history", self.HISTORY),
            (people, (("me", False), ("you", 1)), events), (people, owners, events + (born(0, "a", 1, "d"),)),
            (people, owners, events + (calm("me", 2),)), (people, owners, events[:4] + (letter("me", "a", "look", True),)),
        ):
            self.assertIs(is_history_of(self.BOOK, thing), False)

    def test_values_of_all_kinds(self):
        people, owners, events = self.HISTORY
        for value in strange_values():
            for thing in (
                value, (value, owners, events), (people, value, events), (people, owners, events + (value,)),
                (people, owners + (value,), events), (value, value, value), (people, owners, (value,) + events),
            ):
                if thing != (10 ** 4299, owners, events):
                    self.assertIs(is_history_of(self.BOOK, thing), False)

    def test_no_book(self):
        for call in (history_of, lambda book: is_history_of(book, self.HISTORY), lambda book: is_history_of(book, None)):
            for book, number in ((None, None), ((), None), ({}, None), ([None], 0), (self.BOOK + [("met", "a", 1)], 4)):
                with self.assertRaises(NoBook) as caught:
                    call(book)
                self.assertEqual((caught.exception.name, caught.exception.row), (None, number))
            for value in strange_values():
                with self.assertRaises(NoBook) as caught:
                    call([walk("", ""), value])
                self.assertEqual(caught.exception.row, 1)


if __name__ == "__main__":
    unittest.main()
