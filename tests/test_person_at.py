"""Promises 6 and 7: the person at each place of an owner's book."""

import unittest

from ownwords.errors import NoHistory, NoName, NoPlace
from ownwords.histories import person_at, played

from tests.helper import WALK, born, calm, deep_list, deep_tuple, gone, letter, strange_values

HISTORY = (7, (("bob", 3), ("ann", 5)), (
    born(5, "a", 2, "b"), born(2, "c", 3, "d"), born(3, "e", 6, "f"),
    letter("ann", "", "list"),                  # ann 0
    letter("ann", "a c e", "leave", 1),         # ann 1
    letter("ann", "a c x e", "look", 1),        # ann 2
    letter("ann", "x a", *WALK),                # ann 3
    letter("ann", "a b a", "meet", 1),          # ann 4
    letter("ann", "a c", "meet", 2),            # ann 5, bob 0
    letter("bob", "d b", "meet", 3),            # bob 1, ann 6
    letter("ann", "a c e", "tie", "g", "h"),    # ann 7
    letter("ann", "g", *WALK),                  # ann 8
    letter("ann", "a", "part"),                 # ann 9
    letter("ann", "a c", *WALK),                # ann 10
    calm("ann", 7),                             # ann 11
    gone(2, "c"),
    letter("bob", "d", *WALK),                  # bob 2
    letter("ann", "g f", "list"),               # ann 12
))

PEOPLE = {
    "ann": [
        [5], [5, 2, 3, 6], [5, 2, 3], [5], [5, 2, 5, 2], [5, 2, 3], [5], [5, 2, 3, 6], [5, 6], [5, 2], [5], [5],
        [5, 6, 3],
    ],
    "bob": [[3], [3, 2, 5], [3]],
}


class PersonAtTest(unittest.TestCase):
    def test_the_books_are_as_noted(self):
        books = played(HISTORY)
        self.assertEqual({name: len(book) for name, book in books.items()}, {"bob": 3, "ann": 13})
        self.assertEqual([number for number, row in enumerate(books["ann"]) if row[0] == "met"], [6])
        self.assertEqual([number for number, row in enumerate(books["ann"]) if row[0] == "calm"], [11])
        self.assertEqual([number for number, row in enumerate(books["bob"]) if row[0] == "met"], [0])

    def test_every_place(self):
        for name, rows in PEOPLE.items():
            for number, stops in enumerate(rows):
                for step, person in enumerate(stops):
                    with self.subTest((name, number, step)):
                        found = person_at(HISTORY, name, (number, step))
                        self.assertEqual(found, person)
                        self.assertIs(type(found), int)

    def test_no_other_place(self):
        for name, rows in PEOPLE.items():
            for number, stops in enumerate(rows):
                for step in (len(stops), len(stops) + 1, -1, -len(stops)):
                    with self.subTest((name, number, step)):
                        self.refuse_place(name, (number, step))
            self.refuse_place(name, (len(rows), 0))
            self.refuse_place(name, (-1, 0))
            self.refuse_place(name, (-len(rows), 0))

    def refuse_place(self, name, place):
        with self.assertRaises(NoPlace) as caught:
            person_at(HISTORY, name, place)
        self.assertIs(caught.exception.place, place)

    def test_places_of_other_kinds(self):
        for number, place in enumerate(strange_values() + [
            [0, 0], (0,), ((0, 0),), (0, 0, 0), "00", ("0", "0"), (0, "0"), ("ann", 0, 0), 0, (False, 0), (0, False),
            (1, True), (True, 1), (None, 0), (0, None), ([0], 0), (0, (0,)), (10 ** 4299, 0), (0, 10 ** 4299),
            (deep_tuple(), 0), (0, deep_list()), (deep_tuple(), deep_tuple()),
        ]):
            if place == (0, 0):
                continue
            with self.subTest(number):
                self.refuse_place("ann", place)

    def test_owner_without_rows_has_no_place(self):
        with self.assertRaises(NoPlace) as caught:
            person_at((1, (("ann", 0),), ()), "ann", (0, 0))
        self.assertEqual(caught.exception.place, (0, 0))

    def test_names_that_no_owner_has(self):
        for number, name in enumerate(strange_values() + [
            "an", "anna", "cat", "Ann", "abcdefghi", ["ann"], ("ann",), ("ann", 5), 5,
        ]):
            with self.subTest(number):
                with self.assertRaises(NoName) as caught:
                    person_at(HISTORY, name, (0, 0))
                self.assertIs(caught.exception.name, name)

    def test_order_of_the_errors(self):
        bad = (7, HISTORY[1], HISTORY[2] + (None,))
        for name in ("ann", "cat", None):
            for place in ((0, 0), (0, 1), None):
                with self.assertRaises(NoHistory) as caught:
                    person_at(bad, name, place)
                self.assertEqual(caught.exception.at, len(HISTORY[2]))
                with self.assertRaises(NoHistory) as caught:
                    person_at(None, name, place)
                self.assertIsNone(caught.exception.at)
        for place in ((0, 1), (99, 0), None, [0, 0]):
            with self.assertRaises(NoName) as caught:
                person_at(HISTORY, "cat", place)
            self.assertEqual(caught.exception.name, "cat")


if __name__ == "__main__":
    unittest.main()
