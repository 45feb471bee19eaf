"""Promise 17: what knowledge costs."""

import unittest

from ownwords.bills import bill, gained
from ownwords.clashes import clash_of
from ownwords.errors import NoBook
from ownwords.foldings import lots
from ownwords.histories import played

from tests import naive
from tests.helper import PART, TIE, WALK, born, letter, listed, lost, row, strange_values, walk
from tests.plays import changed_book, some_history


def slow_bill(book):
    """The bill as DOC.md words it."""
    now = naive.fold(book)
    named = naive.ends(book)
    ties = []
    for end in named:
        names = naive.names_of(book, now, *named[end])
        if names not in ties:
            ties.append(names)
    found = 0
    for one in book:
        if naive.came(one) and (one[2][2] is True or naive.makes(one) or one[2][2] == "self"):
            found += 1
    return {"lots": len(set(now.values())), "ties": len(ties), "found": found}


def slow_gained(book):
    """What each row gained, as DOC.md words it."""
    found = []
    for r in range(len(book)):
        before, now = naive.fold(book[:r]), naive.fold(book[:r + 1])
        found.append(len(set(before.values())) - len({now[place] for place in before}))
    return found


class BillTest(unittest.TestCase):
    def check(self, many, ties, found, *book):
        answer = bill(list(book))
        self.assertEqual(answer, {"lots": many, "ties": ties, "found": found})
        self.assertIs(type(answer), dict)
        self.assertEqual(answer, slow_bill(list(book)))

    def test_the_empty_book(self):
        self.check(0, 0, 0)

    def test_lots(self):
        self.check(1, 0, 0, walk("", ""))
        self.check(3, 2, 0, walk("a b", "p q"))
        self.check(1, 0, 0, ("met", "a", 1), lost("b"), walk("", ""))

    def test_ties_count_once(self):
        self.check(2, 1, 0, walk("a", "p"), walk("a", "p"), walk("a p", "p a"))
        self.check(3, 2, 0, walk("a", "p"), walk("b", "q"))
        self.check(2, 2, 1, row("a", TIE, "came", "p", ("u", "v")))
        self.check(2, 2, 1, row("a", TIE, "came", "p", ("u", "v")), walk("u v", "v u"), walk("a", "p"))

    def test_only_ties_with_two_known_ends(self):
        self.check(2, 1, 0, walk("a", "p"), listed("a b c"), lost("d"), ("met", "e", 1))
        self.check(2, 1, 0, lost("a b", "p"), listed("p x", "a", "p"), ("met", "a", 1))

    def test_ties_of_one_word(self):
        # The two ends of each of these ties have the same word.
        self.check(2, 1, 0, walk("a", "a"))
        self.check(2, 2, 1, row("", ("leave", 1), "came", "", None), row("a b", ("look", 1), "came", "a b", True))
        self.check(2, 1, 1, row("", ("leave", 1), "came", "", None), row("a a", ("look", 1), "came", "a a", True))

    def test_ties_that_hang_together_in_a_clash(self):
        self.check(2, 1, 0, walk("a", "b"), walk("a", "c"))
        self.check(3, 2, 0, walk("a", "b"), walk("a", "c"), walk("a d", "b e"))
        self.check(2, 1, 0, walk("a", "b"), walk("a b", "c d"))
        # A tie with oneself is one, whatever else hangs on it.
        self.check(1, 1, 1, row("", ("leave", 1), "came", "", None), row("a", ("look", 1), "came", "b", True))
        self.check(2, 2, 1, row("", ("leave", 1), "came", "", None), row("a", ("look", 1), "came", "b", True), walk("c", "c"))

    def test_found(self):
        left = row("a", ("leave", 1), "came", "p", None)
        found, missed = row("a", ("look", 1), "came", "p", True), row("b", ("look", 1), "came", "q", False)
        self.check(2, 1, 1, left, found)
        self.check(3, 2, 1, left, found, missed)
        self.check(2, 1, 2, left, found, found)
        self.check(2, 1, 1, found)
        self.check(2, 1, 0, row("a", ("look", 1), "lost", ""), row("a", ("meet", 1), "came", "p", "met"))
        self.check(2, 2, 1, row("a a", TIE, "came", "p p", "self"))
        self.check(2, 1, 1, row("a p", ("meet", 2), "came", "p a", "self"))
        self.check(2, 2, 1, row("a", TIE, "came", "p", ("u", "v")), row("a", TIE, "lost", ""))

    def test_calm_rows(self):
        self.check(2, 2, 1, row("a", TIE, "came", "p", ("u", "v")), ("calm", 0), walk("u", "v"), ("calm", 1))
        self.check(2, 1, 0, row("a", PART, "came", "p", None), ("calm", 0))

    def test_known_rings_are_paid_for(self):
        for number in range(200):
            book = played(some_history(number, 3 + number % 9, number % 3 == 0))["me"]
            answer = bill(book)
            self.assertEqual(answer, slow_bill(book))
            if book:
                self.assertLessEqual(answer["ties"] - answer["lots"] + 1, answer["found"])

    def test_books_that_contradict_themselves(self):
        for number in range(200, 260):
            book = changed_book(number, played(some_history(number, 3 + number % 9))["me"])
            self.assertEqual(bill(book), slow_bill(book))


class GainedTest(unittest.TestCase):
    def check(self, wanted, *book):
        answer = gained(list(book))
        self.assertEqual(answer, wanted)
        self.assertIs(type(answer), list)
        self.assertEqual(answer, slow_gained(list(book)))

    def test_the_empty_book(self):
        self.check([])

    def test_nothing_is_gained_without_a_find(self):
        self.check([0], walk("a b c", "p q r"))
        self.check([0, 0, 0], walk("a", "p"), walk("a b", "p q"), listed("a"))
        self.check([0, 0, 0, 0], ("met", "a", 1), lost("b"), walk("", ""), ("calm", 1))
        self.check([0, 0], row("a", TIE, "came", "p", ("u", "v")), walk("u", "v"))

    def test_looks(self):
        left = row("a", ("leave", 1), "came", "p", None)
        self.check([0, 0, 1], left, walk("b", "q"), row("b", ("look", 1), "came", "q", True))
        self.check([0, 0], left, row("b", ("look", 1), "came", "q", True))
        self.check([0, 0, 2], walk("a c", "p r"), row("b c", ("leave", 1), "came", "q r", None), row("a c", ("look", 1), "came", "p r", True))
        self.check([0, 0, 0], left, walk("b", "q"), row("b", ("look", 1), "came", "q", False))
        self.check([0, 0, 0], walk("b", "q"), row("b", ("look", 1), "came", "q", True), walk("b", "q"))

    def test_self(self):
        self.check([0, 1], walk("a b", "p q"), row("a b", TIE, "came", "p q", "self"))
        self.check([0, 1], walk("a b", "p q"), row("a b", ("meet", 1), "came", "p q", "self"))
        self.check([0, 0], walk("a", "p"), row("b c", ("meet", 1), "came", "q r", "self"))

    def test_a_tie_that_leads_on(self):
        # The word at the last place is one that the book knew elsewhere: once the two are one, their ties are.
        book = [walk("a x", "p r"), walk("b x", "q r"), row("a", ("leave", 1), "came", "p", None)]
        self.check([0, 0, 0, 2], *book, row("b", ("look", 1), "came", "q", True))

    def test_books_with_a_clash(self):
        self.check([0, 0, 0], walk("a", "p"), walk("a", "q"), walk("a", "p"))
        self.check([0, 0, 0], walk("a c", "p r"), walk("b c", "q r"), walk("a p b", "p a q"))
        self.check([0, 0, 1], walk("a", "p"), walk("b", "q"), walk("a p", "p b"))

    def test_books_that_were_played(self):
        for number in range(120):
            book = played(some_history(number, 3 + number % 9, number % 3 == 0))["me"]
            answer = gained(book)
            self.assertEqual(answer, slow_gained(book))
            self.assertEqual(len(answer), len(book))
            for gain, one in zip(answer, book):
                if gain != 0:
                    self.assertTrue(one[2][2] is True or one[2][2] == "self")

    def test_books_that_contradict_themselves(self):
        clashes = 0
        for number in range(200, 260):
            book = changed_book(number, played(some_history(number, 3 + number % 9))["me"])
            self.assertEqual(gained(book), slow_gained(book))
            clashes += clash_of(book) is not None
        self.assertGreater(clashes, 10)


class CommonTest(unittest.TestCase):
    def test_no_book(self):
        for call in (bill, gained):
            for book, number in ((None, None), ((), None), ({}, None), ([walk("", ""), None], 1), ([("calm", 0)], 0)):
                with self.assertRaises(NoBook) as caught:
                    call(book)
                self.assertEqual((caught.exception.name, caught.exception.row), (None, number))
            for value in strange_values():
                with self.assertRaises(NoBook) as caught:
                    call([walk("", ""), value])
                self.assertEqual(caught.exception.row, 1)

    def test_twelve_rows(self):
        book = [walk("a b c d e f g h", "1 2 3 4 5 6 7 8") for _ in range(11)] + [walk("x", "y")]
        self.assertEqual(bill(book), {"lots": 10, "ties": 9, "found": 0})
        self.assertEqual(gained(book), [0] * 12)
        self.assertEqual(len(lots(book)), 10)

    def test_the_ring_of_a_history(self):
        history = (3, (("me", 0),), (
            born(0, "a", 1, "p"), born(1, "b", 2, "q"), born(2, "c", 0, "r"), letter("me", "", "leave", 1),
            letter("me", "a b", *WALK), letter("me", "r c r c", *WALK), letter("me", "a b c", "look", 1),
        ))
        book = played(history)["me"]
        self.assertEqual(bill(book), {"lots": 3, "ties": 3, "found": 1})
        self.assertEqual(gained(book), [0, 0, 0, 1])


if __name__ == "__main__":
    unittest.main()
