"""Promises 3, 7 and 8: which books are valid, and the places and ties of a book."""

import unittest

from ownwords.books import places, ties
from ownwords.errors import NoBook
from ownwords.histories import person_at, played

from tests.helper import WALK, born, calm, deep_list, deep_tuple, letter, row, strange_values

LIST, TIE, PART = ("list",), ("tie",), ("part",)
WALK_ROW = row("", WALK, "came", "", None)

# One row of every kind, valid in this order.
EVERY = [
    row("", WALK, "came", "", None),
    row("a b", WALK, "came", "c d", None),
    row("a b", WALK, "lost", "c"),
    row("a", WALK, "lost", ""),
    row("a", LIST, "came", "b", ()),
    row("a", LIST, "came", "b", ("0", "10", "9", "a", "aa", "b")),
    row("a", LIST, "lost", ""),
    row("a", ("leave", 0), "came", "b", None),
    row("a", ("leave", 1), "lost", ""),
    row("a", ("look", 0), "came", "b", True),
    row("a", ("look", 5), "came", "b", False),
    row("a", ("look", 0), "lost", ""),
    row("a", TIE, "came", "b", ("u", "v")),
    row("a", TIE, "came", "b", "self"),
    row("a b", TIE, "lost", "c"),
    row("a", PART, "came", "b", None),
    row("a", PART, "lost", ""),
    row("a", ("meet", 0), "came", "b", None),
    row("a", ("meet", 1), "came", "b", "self"),
    row("a", ("meet", 2), "came", "b", "met"),
    row("a", ("meet", 3), "lost", ""),
    ("met", "a", 4),
    row("a b a", ("meet", 10 ** 30 - 1), "came", "c d e", None),
    ("calm", 22),
    ("calm", 23),
    ("calm", 22),
    ("met", "a", 5),
    row("", ("leave", 10 ** 30 - 1), "came", "", None),
    ("calm", 27),
]

EVERY_PLACES = [
    (0, 0), (1, 0), (1, 1), (1, 2), (2, 0), (2, 1), (3, 0), (4, 0), (4, 1), (5, 0), (5, 1), (6, 0), (7, 0), (7, 1),
    (8, 0), (9, 0), (9, 1), (10, 0), (10, 1), (11, 0), (12, 0), (12, 1), (13, 0), (13, 1), (14, 0), (14, 1),
    (15, 0), (15, 1), (16, 0), (17, 0), (17, 1), (18, 0), (18, 1), (19, 0), (19, 1), (20, 0), (21, 0),
    (22, 0), (22, 1), (22, 2), (22, 3), (23, 0), (24, 0), (25, 0), (26, 0), (27, 0), (28, 0),
]

EVERY_TIES = [
    (1, 1), (1, 2), (2, 1), (4, 1), (5, 1), (7, 1), (9, 1), (10, 1), (12, 1), (12, 2), (13, 1), (14, 1), (15, 1),
    (17, 1), (18, 1), (19, 1), (22, 1), (22, 2), (22, 3),
]


class BookCase(unittest.TestCase):
    def refuse(self, number, book):
        """Checks that the book is refused, with the number of this row."""
        for query in (places, ties):
            with self.assertRaises(NoBook) as caught:
                query(book)
            self.assertIsNone(caught.exception.name)
            self.assertEqual((type(caught.exception.row), caught.exception.row), (type(number), number))

    def refuse_row(self, bad, before=()):
        """Checks that a row is refused behind others, alone if there are none, and before one that is worse."""
        good = row("z", WALK, "lost", "")
        for start in (list(before), list(before) + [good], list(before) + [good, good]):
            self.refuse(len(start), start + [bad])
            self.refuse(len(start), start + [bad, good])
            self.refuse(len(start), start + [bad, None])

    def take(self, *rows):
        """Checks that a book is valid."""
        self.assertEqual(len({number for number, _ in places(list(rows))}), len(rows))
        self.assertIs(type(ties(list(rows))), list)


class PlacesAndTiesTest(BookCase):
    def test_places_in_order(self):
        self.assertEqual(places(EVERY), EVERY_PLACES)
        self.assertEqual(places([]), [])
        self.assertEqual(places([row("a b c", WALK, "lost", "d e")]), [(0, 0), (0, 1), (0, 2)])
        self.assertEqual(places([("met", "a", 0), ("met", "b", 1)]), [(0, 0), (1, 0)])

    def test_ties_in_order(self):
        self.assertEqual(ties(EVERY), EVERY_TIES)
        self.assertEqual(ties([]), [])
        self.assertEqual(ties([("met", "a", 0)]), [])
        self.assertEqual(ties([row("a b c", WALK, "lost", "d e")]), [(0, 1), (0, 2)])

    def test_made_ties(self):
        self.assertEqual(ties([row("", TIE, "came", "", ("u", "v"))]), [(0, 1)])
        self.assertEqual(ties([row("", TIE, "came", "", "self")]), [])
        self.assertEqual(ties([row("a b", TIE, "came", "c d", ("u", "v"))]), [(0, 1), (0, 2), (0, 3)])
        self.assertEqual(ties([row("a b", TIE, "came", "c d", "self")]), [(0, 1), (0, 2)])
        self.assertEqual(ties([row("a b", TIE, "lost", "c")]), [(0, 1)])
        self.assertEqual(ties([row("a b", TIE, "lost", "")]), [])

    def test_a_book_of_more_than_ten_rows_keeps_the_order_of_numbers(self):
        book = [row("a", WALK, "came", "b", None)] * 12
        self.assertEqual(places(book), [(number, step) for number in range(12) for step in (0, 1)])
        self.assertEqual(ties(book), [(number, 1) for number in range(12)])

    def test_eight_words(self):
        book = [row("a b c d e f g h", WALK, "came", "1 2 3 4 5 6 7 8", None)]
        self.assertEqual(places(book), [(0, step) for step in range(9)])
        self.assertEqual(ties(book), [(0, step) for step in range(1, 9)])

    def test_the_books_of_a_history_are_valid(self):
        history = (3, (("ann", 0), ("bob", 1)), (
            born(0, "a", 1, "b"), born(1, "c", 2, "d"),
            letter("ann", "a c", "list"), letter("ann", "a c", "tie", "e", "f"), letter("ann", "e", "tie", "g", "h"),
            letter("ann", "a b", "tie", "e", "f"), letter("ann", "a x", "tie", "e", "f"), calm("ann", 2),
            letter("ann", "a", "meet", 1), letter("bob", "b", "meet", 2), letter("ann", "g", "leave", 1),
            letter("ann", "", "look", 1), letter("ann", "g", "part"), letter("bob", "", "meet", 3), calm("ann", 8),
        ))
        books = played(history)
        self.assertEqual([len(book) for book in books.values()], [12, 3])
        self.assertEqual(ties(books["ann"]), [
            (0, 1), (0, 2), (1, 1), (1, 2), (1, 3), (2, 1), (2, 2), (3, 1), (3, 2), (4, 1), (6, 1), (8, 1), (10, 1),
        ])
        self.assertEqual(ties(books["bob"]), [(1, 1)])
        for name, book in books.items():
            for place in places(book):
                self.assertIn(person_at(history, name, place), (0, 1, 2))


class ValidBooksTest(BookCase):
    def test_book_is_a_list(self):
        for number, book in enumerate(strange_values() + [tuple(EVERY), "book", (), (EVERY,)]):
            if not isinstance(book, list):
                with self.subTest(number):
                    self.refuse(None, book)

    def test_every_row_alone_or_behind_others(self):
        for number, entry in enumerate(EVERY):
            with self.subTest(number):
                if entry[0] == "calm":
                    self.take(WALK_ROW, ("calm", 0))
                else:
                    self.take(entry)
                    self.take(WALK_ROW, entry)

    def test_rows_of_other_kinds(self):
        for number, entry in enumerate(strange_values() + [
            "met", "calm", ["met", "a", 0], ["calm", 0], list(WALK_ROW), (), ("met",), ("calm",), ("calm", 0, 0),
            ("met", "a"), ("met", "a", 0, 0), WALK_ROW[:2], WALK_ROW + (None,), ("Met", "a", 0), ("lost", ()), (WALK_ROW,),
            ("born", 0, "a", 1, "b"), ("letter", "ann", (), WALK), ("calm", "ann", 0), ("met", 0, "a"), ((), 0),
            ("came", (), None), (("met",), "a", 0), (("calm",), 0),
        ]):
            with self.subTest(number):
                self.refuse_row(entry)

    def test_the_first_of_two_invalid_rows(self):
        bad = row("a", WALK, "came", "", None)
        self.refuse(0, [bad, bad])
        self.refuse(1, [WALK_ROW, bad, None])
        self.refuse(1, [WALK_ROW, None, bad])
        left = row("a", ("leave", 1), "lost", "")
        # The repeated mark stands before the row of a wrong form, and the other way round.
        self.refuse(2, [left, WALK_ROW, left, None])
        self.refuse(1, [left, None, left])
        self.refuse(1, [left, left, left, bad])

    def test_each_field_of_each_row(self):
        """Puts every strange value into each field of a row that is valid without it."""
        for entry in (
            row("a b", LIST, "came", "c d", ("x",)), row("a b", ("look", 0), "lost", "c"), ("met", "a", 0),
            row("a", TIE, "came", "c", ("x", "y")), row("a", ("meet", 0), "came", "c", "met"),
        ):
            for field in range(len(entry)):
                for number, value in enumerate(strange_values()):
                    with self.subTest((entry, field, number)):
                        self.refuse_row(entry[:field] + (value,) + entry[field + 1:])

    def test_each_part_of_what_was_seen(self):
        for entry in (row("a", LIST, "came", "c", ("x",)), row("a", ("look", 0), "lost", ""), row("a", WALK, "came", "c", None)):
            seen = entry[2]
            for field in range(len(seen)):
                for number, value in enumerate(strange_values()):
                    if value == () and (seen[field] == () or entry[1] == LIST and field == 2):
                        continue
                    if value is None and entry[1] == WALK and field == 2:
                        continue
                    with self.subTest((entry, field, number)):
                        self.refuse_row(entry[:2] + (seen[:field] + (value,) + seen[field + 1:],))


class WaysAndBacksTest(BookCase):
    def test_ways_are_tuples_of_words(self):
        for number, way in enumerate([
            ["a"], "a", ("A",), ("",), ("abcdefg",), (1,), (None,), (("a",),), ("a b",), ("\u00e9",), (True,), (["a"],),
            (deep_tuple(),), (deep_list(),), ("\u0665",),
        ]):
            with self.subTest(number):
                self.refuse_row((way, WALK, ("came", ("b",), None)))
                self.refuse_row((way, WALK, ("lost", ())))
        self.take((("abcdef",), WALK, ("came", ("012345",), None)))

    def test_backs_are_tuples_of_words(self):
        for number, back in enumerate(["A", "", "abcdefg", 1, None, ("a",), "a b", "\u00e9", True, ["a"], deep_tuple()]):
            with self.subTest(number):
                self.refuse_row((("a",), WALK, ("came", (back,), None)))
                self.refuse_row((("a", "b"), WALK, ("lost", (back,))))
        self.refuse_row((("a",), WALK, ("came", ["b"], None)))
        self.refuse_row((("a",), WALK, ("came", "b", None)))
        self.refuse_row((("a", "b"), WALK, ("lost", ["b"])))
        self.refuse_row((("a", "b"), WALK, ("lost", "b")))

    def test_a_letter_that_came_has_a_back_for_each_word(self):
        for way, backs in (("a", ""), ("", "a"), ("a", "b c"), ("a b c", "a b"), ("a b c", "a b c d")):
            self.refuse_row(row(way, WALK, "came", backs, None))

    def test_a_letter_that_was_lost_has_fewer(self):
        for way, backs in (("", ""), ("a", "b"), ("", "a"), ("a", "b c"), ("a b c", "a b c"), ("a b c", "a b c d")):
            self.refuse_row(row(way, WALK, "lost", backs))
        for backs in ("", "a", "a b"):
            self.take(row("a b c", WALK, "lost", backs))

    def test_what_was_seen_has_its_form(self):
        for number, seen in enumerate([
            ("came", ("b",)), ("came", ("b",), None, None), ("lost", (), None), ("lost",), ("came",), (), "lost", None,
            ["came", ("b",), None], ["lost", ()], ("gone", ()), ("Lost", ()), (None, ("b",), None), ("came", None, ("b",)),
            ("self", ("b",), None), (("lost",), ()), ("lost", ("b",), None),
        ]):
            with self.subTest(number):
                self.refuse_row((("a",), WALK, seen))


class ErrandsTest(BookCase):
    def test_errands_of_other_forms(self):
        for number, errand in enumerate(strange_values() + [
            "walk", ["walk"], ("Walk",), ("run",), ("walk", 1), ("walk", None), ("list", 1), ("part", 1), ("tie", 1),
            ("tie", "u", "v"), ("tie", ("u", "v")), ("tie", None), ["tie"], ("leave",), ("look",), ("meet",),
            ("leave", 1, 2), ("look", 1, 2), ("meet", 1, 2), ("met", 1), ("calm", 0), ("self",), (("walk",),), (None,),
        ]):
            with self.subTest(number):
                for thing in (None, ("u", "v"), "self", True):
                    self.refuse_row((("a",), errand, ("came", ("b",), thing)))
                self.refuse_row((("a",), errand, ("lost", ())))

    def test_marks_and_signs(self):
        for kind, thing in (("leave", None), ("look", True), ("meet", None)):
            for number, mark in enumerate([-1, 10 ** 30, 10 ** 4299, True, False, None, "1", (1,), [1], deep_tuple()]):
                with self.subTest((kind, number)):
                    self.refuse_row(row("a", (kind, mark), "came", "b", thing))
                    self.refuse_row(row("a", (kind, mark), "lost", ""))
            self.take(row("a", (kind, 0), "came", "b", thing), row("a", (kind, 10 ** 30 - 1), "lost", ""))

    def test_a_part_row_must_not_have_an_empty_way(self):
        self.refuse_row(row("", PART, "came", "", None))
        self.take(row("a", PART, "came", "b", None), row("a", PART, "lost", ""))

    def test_what_walk_leave_and_part_bring(self):
        for errand in (WALK, ("leave", 1), PART):
            self.take(row("a", errand, "came", "b", None))
            for number, thing in enumerate([
                False, True, 0, (), "", "self", "met", ("u", "v"), ("u",), [], [None], deep_tuple(),
            ]):
                with self.subTest((errand, number)):
                    self.refuse_row(row("a", errand, "came", "b", thing))

    def test_what_list_brings(self):
        for thing in ((), ("a",), ("a", "b"), ("0", "a"), ("9", "a"), ("a", "aa"), ("10", "9"), ("a" * 6, "b")):
            self.take(row("a", LIST, "came", "b", thing))
        for number, thing in enumerate([
            None, True, "a", "", ["a"], ("b", "a"), ("a", "a"), ("a", "b", "b"), ("a", "c", "b"), ("aa", "a"), ("a", "9"),
            ("9", "10"), ("A",), ("",), ("a" * 7,), (1, 2), (None,), ("a", None), ("a", ("b",)), ("b", "a", "c"),
            "self", "ab", (deep_tuple(), deep_tuple()), (deep_list(), deep_list()),
        ]):
            with self.subTest(number):
                self.refuse_row(row("a", LIST, "came", "b", thing))
        self.take(row("a", LIST, "came", "b", tuple(sorted(str(number) for number in range(40)))))

    def test_what_look_brings(self):
        for number, thing in enumerate([None, 0, 1, "True", (), (True,), [True], "self", ("u", "v"), -1]):
            with self.subTest(number):
                self.refuse_row(row("a", ("look", 1), "came", "b", thing))
        self.take(row("a", ("look", 1), "came", "b", True), row("", ("look", 1), "came", "", False))

    def test_what_tie_brings(self):
        for thing in ("self", ("u", "v"), ("u", "u"), ("abcdef", "012345")):
            self.take(row("a", TIE, "came", "b", thing))
        for number, thing in enumerate([
            None, True, (), ("u",), ("u", "v", "w"), ["u", "v"], "uv", ("u", ""), ("U", "v"), ("u", None), (1, 2), "met",
            "Self", ("self",), "u", ("u", ("v",)), ("abcdefg", "v"), ("u", "abcdefg"), (deep_tuple(), "v"), "", ["self"],
        ]):
            with self.subTest(number):
                self.refuse_row(row("a", TIE, "came", "b", thing))

    def test_what_meet_brings(self):
        for thing in (None, "self", "met"):
            self.take(row("a", ("meet", 1), "came", "b", thing))
        for number, thing in enumerate([
            True, False, 0, (), "", "lost", "Met", ("met",), ["met"], ("u", "v"), [], deep_list(), "none", "came",
        ]):
            with self.subTest(number):
                self.refuse_row(row("a", ("meet", 1), "came", "b", thing))

    def test_what_was_brought_fits_the_errand_whatever_the_way_is(self):
        self.take(
            row("", TIE, "came", "", ("u", "v")), row("", ("meet", 1), "came", "", "met"),
            row("", ("meet", 2), "came", "", None), row("a", TIE, "came", "b", "self"), row("", TIE, "came", "", "self"),
            row("", ("meet", 3), "came", "", "self"), row("a", ("meet", 4), "came", "b", "self"),
        )


class RepeatsTest(BookCase):
    def test_marks_are_left_once(self):
        came, lost = row("a", ("leave", 1), "came", "b", None), row("a", ("leave", 1), "lost", "")
        other = row("c", ("leave", 1), "came", "d", None)
        for first in (came, lost):
            for second in (came, lost, other):
                self.refuse_row(second, [first])
                self.refuse_row(second, [first, row("", ("leave", 2), "came", "", None)])
        self.take(came, row("a", ("leave", 2), "came", "b", None), row("a", ("leave", 0), "lost", ""))

    def test_signs_are_met_once(self):
        rows = [
            row("a", ("meet", 1), "came", "b", None), row("a", ("meet", 1), "came", "b", "self"),
            row("a", ("meet", 1), "came", "b", "met"), row("a", ("meet", 1), "lost", ""), ("met", "a", 1), ("met", "b", 1),
        ]
        for first in rows:
            for second in rows:
                with self.subTest((first, second)):
                    self.refuse_row(second, [first])
            self.take(first, ("met", "a", 2), row("a", ("meet", 3), "lost", ""))

    def test_what_may_be_repeated(self):
        self.take(*[row("a", ("look", 1), "came", "b", False)] * 3)
        self.take(*[row("a", ("look", 1), "lost", "")] * 3)
        self.take(*[row("a", TIE, "came", "b", ("u", "v"))] * 3)
        self.take(*[row("a", LIST, "came", "b", ("u", "v"))] * 3)
        # Marks and signs are two things.
        self.take(row("a", ("leave", 1), "came", "b", None), row("a", ("meet", 1), "lost", ""), ("met", "a", 2))
        self.take(("met", "a", 1), row("a", ("leave", 1), "lost", ""), row("a", ("look", 1), "came", "b", True))

    def test_a_book_that_contradicts_itself_is_valid(self):
        self.take(row("a", WALK, "came", "b", None), row("a", WALK, "came", "c", None))
        self.take(row("a", ("look", 1), "came", "b", True))
        self.take(row("", LIST, "came", "", ("a",)), ("calm", 0), row("", LIST, "came", "", ("b",)), ("calm", 1))


class MetAndCalmTest(BookCase):
    def test_met_rows(self):
        self.take(("met", "a", 0), ("met", "a", 10 ** 30 - 1), ("met", "abcdef", 5))
        for number, back in enumerate(["", "A", "abcdefg", None, 1, ("a",), ["a"], "a b", "\u00e9", deep_list()]):
            with self.subTest(number):
                self.refuse_row(("met", back, 0))
        for number, sign in enumerate([-1, 10 ** 30, True, False, None, "0", (0,), [0], deep_tuple(), 10 ** 4299]):
            with self.subTest(number):
                self.refuse_row(("met", "a", sign))

    def test_a_calm_row_has_the_number_of_an_earlier_row(self):
        good = [row("a", WALK, "lost", "")] * 3
        for number in (0, 1, 2):
            self.take(*good, ("calm", number))
        for number, value in enumerate([3, 4, -1, -3, 10 ** 4299, True, False, None, "0", (0,), [0], deep_tuple(), (0, 0)]):
            with self.subTest(number):
                self.refuse(3, good + [("calm", value)])
        self.refuse(0, [("calm", 0)])
        self.refuse(0, [("calm", -1)])
        self.refuse(1, good[:1] + [("calm", 1)] + good)

    def test_calm_rows_may_name_calm_rows(self):
        self.take(WALK_ROW, ("calm", 0), ("calm", 1), ("calm", 0), ("calm", 2), WALK_ROW, ("calm", 4), ("calm", 5))

    def test_no_met_row_stands_from_the_row_up_to_the_calm_row(self):
        start = [WALK_ROW, ("met", "a", 1), WALK_ROW, ("calm", 2), WALK_ROW]
        self.take(*start, ("calm", 2))
        self.take(*start, ("calm", 3))
        self.refuse(5, start + [("calm", 1)])
        self.refuse(5, start + [("calm", 0)])
        self.refuse(2, [WALK_ROW, ("met", "a", 1), ("calm", 1)])
        self.refuse(2, [WALK_ROW, ("met", "a", 1), ("calm", 0)])
        self.refuse(7, start + [("calm", 2), ("met", "b", 2), ("calm", 4)])
        self.take(WALK_ROW, ("calm", 0), ("met", "a", 1))


if __name__ == "__main__":
    unittest.main()
