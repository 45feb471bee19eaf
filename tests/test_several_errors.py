"""Promises 2, 23 and 25: which several books, places and rows are wrong, and which error comes first."""

import unittest

from ownwords.errors import NoBook, NoPlace, NoRow, TooMany
from ownwords.several import could, fits, is_barred, known

from tests.helper import WALK, calm, deep_list, deep_tuple, listed, lost, row, strange_values, walk

BOOKS = {"ann": [walk("a", "b"), lost("c d", "e")], "bob": [("met", "a", 1), walk("", "")], "cat": []}
WISH = ("ahead", ("ann", 0), ("ann", 1))
CALLS = (
    lambda books: could(books, []), lambda books: could(books, [("one", None, None), ("ahead", None, None)]),
    lambda books: known(books, WISH), lambda books: known(books, ("lives", None, "a", None)), lambda books: fits(books, None),
    lambda books: is_barred(books, [], None), lambda books: is_barred(books, [("ahead", None, None)], ("never", (), ("same", 0))),
)


def meet(sign, thing, way="a"):
    """The row of a meet letter that came."""
    return row(way, ("meet", sign), "came", "b" if way else "", thing)


class BooksTest(unittest.TestCase):
    def check(self, books, name, number):
        """The books are wrong, and the error tells where."""
        for call in CALLS:
            with self.assertRaises(NoBook) as caught:
                call(books)
            self.assertIs(caught.exception.name if name is None else None, None)
            self.assertEqual((caught.exception.name, caught.exception.row), (name, number))

    def test_no_dict(self):
        for books in [None, [], [[], []], (), "ann", 0, ("ann", []), [("ann", [])]] + strange_values():
            self.check(books, None, None)

    def test_keys_that_are_no_names(self):
        good = [walk("", "")]
        for key in (None, True, 0, "", "Ann", "ann1", "a b", "abcdefghi", ("ann",), (), deep_tuple(), 10 ** 4299, "\u00e9"):
            for books in ({key: good, "ann": good}, {"ann": good, key: good}, {"ann": None, key: good}, {key: None, "ann": [None]}):
                for call in CALLS:
                    with self.assertRaises(NoBook) as caught:
                        call(books)
                    self.assertIs(caught.exception.name, key)
                    self.assertIsNone(caught.exception.row)
        self.check({"ann": None, "B": good, "A": good}, "B", None)
        self.check({"zoe": good, 7: good, "": good}, 7, None)

    def test_books_that_are_no_lists(self):
        for value in [None, (), {}, "", 0, deep_tuple(), (walk("", ""),)]:
            self.check({"bob": [], "ann": value}, "ann", None)
            self.check({"bob": value, "ann": []}, "bob", None)
            self.check({"bob": value, "ann": [None]}, "ann", 0)
            self.check({"cat": [None], "bob": value, "ann": []}, "bob", None)

    def test_rows(self):
        for value in strange_values() + [("met", "a", True), (("a",), WALK, ("came", (), None)), ("met", "a", 10 ** 30)]:
            self.check({"ann": [walk("", ""), value], "bob": [value]}, "ann", 1)
            self.check({"bob": [value, walk("", "")], "ann": [walk("", "")]}, "bob", 0)
        left = row("", ("leave", 1), "came", "", None)
        self.check({"ann": [left, left], "bob": []}, "ann", 1)
        self.assertIs(fits({"ann": [left], "bob": [left]}, None), False)

    def test_calm_rows(self):
        self.check({"ann": [walk("", ""), ("calm", 0)], "bob": []}, "ann", 1)
        self.check({"ann": [], "bob": [walk("", ""), walk("", ""), ("calm", 1), None]}, "bob", 2)
        self.check({"ann": [], "bob": [("calm", 0)]}, "bob", 0)
        self.check({"ann": [walk("", ""), ("met", "a", 1), ("calm", 0)], "bob": [None]}, "ann", 2)
        self.check({"ann": [walk("", ""), None, ("calm", 0)], "bob": [None]}, "ann", 1)
        self.assertEqual(calm("ann", 0)[0], "calm")

    def test_signs_of_two_meet_rows(self):
        for one in (meet(1, "met"), meet(1, None), meet(1, "self"), row("a", ("meet", 1), "lost", "")):
            for two in (meet(1, "met"), meet(1, None), row("a", ("meet", 1), "lost", "")):
                self.check({"ann": [one], "bob": [walk("", ""), two]}, "bob", 1)
                self.check({"bob": [walk("", ""), one], "ann": [two]}, "bob", 1)
                self.check({"ann": [one, two], "bob": [two]}, "ann", 1)

    def test_signs_of_two_met_rows(self):
        self.check({"ann": [("met", "a", 1)], "bob": [("met", "b", 2), ("met", "b", 1)]}, "bob", 1)
        self.check({"cat": [("met", "a", 1)], "bob": [("met", "b", 2), ("met", "b", 1)]}, "cat", 0)
        self.check({"ann": [("met", "a", 1), ("met", "a", 1)], "bob": []}, "ann", 1)

    def test_signs_of_a_meet_row_and_a_met_row(self):
        met = ("met", "b", 1)
        for letter in (meet(1, None), meet(1, "self"), row("a", ("meet", 1), "lost", "")):
            self.check({"ann": [letter], "bob": [walk("", ""), met]}, "bob", 1)
            self.check({"ann": [walk("", ""), met], "bob": [letter, None]}, "bob", 0)
            self.check({"ann": [letter, met], "bob": []}, "ann", 1)
        self.check({"ann": [meet(1, "met"), met], "bob": []}, "ann", 1)
        self.check({"ann": [met, meet(1, "met")], "bob": []}, "ann", 1)
        self.check({"ann": [met], "bob": [meet(1, "met")], "cat": [meet(1, "met")]}, "cat", 0)
        self.check({"ann": [met], "bob": [meet(1, "met")], "cat": [("met", "a", 1)]}, "cat", 0)
        self.check({"ann": [met], "bob": [("met", "a", 1)], "cat": [meet(1, "met")]}, "bob", 0)
        for books in ({"ann": [met], "bob": [meet(1, "met")]}, {"ann": [meet(1, "met")], "bob": [met]}, {"ann": [meet(1, "met", "")], "bob": [met]}):
            self.assertIn(could(books, [])[0], ("history", "never"))

    def test_a_row_behind_a_wrong_one(self):
        self.check({"ann": [meet(1, None), None], "bob": [meet(1, None)]}, "ann", 1)
        self.check({"ann": [meet(1, None)], "bob": [None, meet(1, None)]}, "bob", 0)
        self.check({"ann": [meet(1, None)], "bob": [meet(1, None), None]}, "bob", 0)
        self.check({"ann": [meet(1, None)], "bob": [meet(2, None), None, meet(1, None)]}, "bob", 1)


class PlacesAndRowsTest(unittest.TestCase):
    def check(self, error, wishes, value):
        """The wishes are wrong, and the error has the value that was passed in."""
        calls = [lambda: could(BOOKS, wishes), lambda: is_barred(BOOKS, wishes, None), lambda: is_barred(BOOKS, wishes, ("never", (), ("same", 0)))]
        if len(wishes) == 1:
            calls.append(lambda: known(BOOKS, wishes[0]))
        for call in calls:
            with self.assertRaises(error) as caught:
                call()
            self.assertIs(caught.exception.place if error is NoPlace else caught.exception.row, value)

    def test_places(self):
        wrong = [
            ("ann", 0, 2), ("ann", 2, 0), ("ann", -1, 0), ("bob", 0, 1), ("cat", 0, 0), ("zoe", 0, 0), ("ann", 0), (0, 0), ("ann", True, 0),
            ("ann", 0, False), ["ann", 0, 0], ("ann", 0, 0, 0), ("?", 0, 0), ("ann", deep_tuple(), 0), (deep_list(), 0, 0), ("ann", "0", 0),
        ]
        good, good_row = ("ann", 0, 0), ("ann", 0)
        for value in wrong + strange_values():
            for wish in (
                ("one", value, None), ("one", good, value), ("two", value, good), ("two", good, value), ("lives", value, "a", None),
                ("lacks", value, "a", good_row),
            ):
                self.check(NoPlace, [wish], value)
                self.check(NoPlace, [("ahead", good_row, good_row), wish, ("one", None, None)], value)

    def test_rows(self):
        wrong = [
            ("ann", 2), ("ann", -1), ("cat", 0), ("zoe", 0), ("ann", 0, 0), (0,), 0, ("ann", True), ["ann", 0], ("?", 0), ("ann", deep_tuple()),
            (deep_list(), 0), ("ann", "0"), ("ann",),
        ]
        good, good_row = ("ann", 0, 0), ("ann", 0)
        for value in wrong + strange_values():
            for wish in (("ahead", value, None), ("ahead", good_row, value), ("lives", good, "a", value), ("lacks", good, "a", value)):
                self.check(NoRow, [wish], value)
                self.check(NoRow, [("one", good, good), wish, ("one", None, None)], value)

    def test_wish_by_wish_and_from_left_to_right(self):
        bad = [("zoe", 0, number) for number in range(9)]
        rows = [("zoe", number) for number in range(9)]
        self.check(NoPlace, [("one", bad[0], bad[1]), ("ahead", rows[0], rows[1])], bad[0])
        self.check(NoRow, [("ahead", rows[0], rows[1]), ("one", bad[0], bad[1])], rows[0])
        self.check(NoPlace, [("lives", bad[0], "a", rows[0])], bad[0])
        self.check(NoRow, [("lives", ("ann", 0, 1), "a", rows[0]), ("lives", bad[0], "a", rows[1])], rows[0])
        # The contrary of what is asked has its rows the other way round.
        self.check(NoRow, [("ahead", rows[3], rows[2])], rows[3])
        self.check(NoRow, [("ahead", ("ann", 0), rows[2])], rows[2])

    def test_too_many_comes_last(self):
        one = ("one", ("ann", 0, 1), ("bob", 0, 1))
        books = {"ann": [walk("a x", "p 1")], "bob": [listed("p q", "b", "q") for _ in range(7)]}
        for wishes, error in (
            ([one], TooMany), ([one, ("ahead", ("ann", 0), ("ann", 1))], NoRow), ([("one", ("ann", 0, 3), None), one], NoPlace),
            ([one, ("lives", ("ann", 0, 0), "a", None)], NoRow),
        ):
            with self.assertRaises(error):
                could(books, wishes)
        books["zoe"] = None
        with self.assertRaises(NoBook):
            could(books, [one])


if __name__ == "__main__":
    unittest.main()
