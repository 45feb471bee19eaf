"""Promise 2: arguments stay as they are, results are the caller's own, and arguments go by position or by name."""

import unittest

from ownwords.books import places, ties
from ownwords.errors import NoBook, NoHistory, NoName, NoPlace
from ownwords.histories import person_at, played

from tests.helper import WALK, born, calm, deep_list, letter, row

OWNERS = (("bob", 1), ("ann", 0), ("cat", 2), ("dan", 3))


def history():
    """A new history in which much happens; cat and dan do nothing."""
    return (5, OWNERS, (
        born(0, "a", 1, "b"), letter("ann", "a", "leave", 1), letter("ann", "a", "look", 1), letter("ann", "", "list"),
        letter("ann", "a", "tie", "c", "d"), letter("bob", "d", "meet", 1), letter("bob", "b", *WALK), calm("bob", 0),
    ))


def book():
    """A new book."""
    return [
        row("a b", WALK, "lost", "c"), row("a", ("tie",), "came", "b", ("u", "v")), ("calm", 0), ("met", "a", 0),
        row("a", ("list",), "came", "b", ("a", "b")),
    ]


class ArgumentsTest(unittest.TestCase):
    def test_by_name(self):
        self.assertEqual(played(history=history()), played(history()))
        self.assertEqual(person_at(history=history(), name="ann", place=(1, 1)), 1)
        self.assertEqual(person_at(place=(0, 0), name="ann", history=history()), 0)
        self.assertEqual(person_at(history(), "ann", place=(2, 0)), 0)
        self.assertEqual(places(book=book()), places(book()))
        self.assertEqual(ties(book=book()), ties(book()))

    def test_books_stay_as_they_are(self):
        for query in (places, ties):
            given = book()
            query(given)
            self.assertEqual(given, book())
            given = book() + [None, [1, [2]]]
            with self.assertRaises(NoBook):
                query(given)
            self.assertEqual(given, book() + [None, [1, [2]]])

    def test_lists_in_places_names_and_histories_stay_as_they_are(self):
        place, name, events = [0, [0]], ["ann"], [letter("ann", "", *WALK)]
        with self.assertRaises(NoPlace):
            person_at(history(), "ann", place)
        with self.assertRaises(NoName):
            person_at(history(), name, place)
        with self.assertRaises(NoHistory):
            person_at((1, (("ann", 0),), events), name, place)
        self.assertEqual((place, name, events), ([0, [0]], ["ann"], [letter("ann", "", *WALK)]))

    def test_later_changes_of_a_book_do_not_change_results(self):
        for query in (places, ties):
            given = book()
            result = query(given)
            kept = list(result)
            given[0] = row("x y z", WALK, "came", "1 2 3", None)
            given.append(row("x", WALK, "came", "y", None))
            self.assertEqual(result, kept)

    def test_a_book_that_was_returned_can_be_passed_in(self):
        books = played(history())
        self.assertEqual(places(books["ann"]), [(0, 0), (0, 1), (1, 0), (1, 1), (2, 0), (3, 0), (3, 1), (4, 0)])
        self.assertEqual(ties(books["bob"]), [(0, 1), (1, 1)])
        self.assertEqual(ties(books["cat"]), [])

    def test_values_that_are_as_deep_as_they_may_be(self):
        # Two deep values side by side must not be compared with each other either.
        with self.assertRaises(NoHistory) as caught:
            played((5, OWNERS, (born(0, "a", 1, "b"), born(deep_list(), "p", deep_list(), "q"))))
        self.assertEqual(caught.exception.at, 1)
        with self.assertRaises(NoHistory) as caught:
            played((5, ((deep_list(), 0), (deep_list(), 1)), ()))
        self.assertIsNone(caught.exception.at)
        with self.assertRaises(NoHistory) as caught:
            played((5, (("ann", deep_list()), ("bob", deep_list())), ()))
        self.assertIsNone(caught.exception.at)
        for entry in (row("a", ("list",), "came", "b", (deep_list(), deep_list())), ("met", deep_list(), deep_list())):
            with self.assertRaises(NoBook) as caught:
                places([entry, entry])
            self.assertEqual(caught.exception.row, 0)


class ResultsTest(unittest.TestCase):
    def test_the_same_answer_when_called_again(self):
        given = history()
        for _ in range(3):
            self.assertEqual(played(given), played(history()))
            self.assertEqual(person_at(given, "bob", (1, 1)), 0)
            self.assertEqual(places(book()), places(book()))
            self.assertEqual(ties(book()), ties(book()))

    def test_the_same_answer_after_an_error(self):
        before = played(history())
        for bad in (None, (5, OWNERS, (None,)), (5, OWNERS, history()[2] + (letter("ann", "", "leave", 1),))):
            with self.assertRaises(NoHistory):
                played(bad)
            with self.assertRaises(NoHistory):
                person_at(bad, "ann", (0, 0))
            self.assertEqual(played(history()), before)
        for bad in (None, [None], book() + [("met", "a", 0)]):
            for query in (places, ties):
                with self.assertRaises(NoBook):
                    query(bad)
        self.assertEqual(len(places(book())), 8)
        self.assertEqual(len(ties(book())), 4)

    def test_marks_words_and_signs_do_not_stay_between_histories(self):
        for _ in range(2):
            self.assertEqual(played((2, (("ann", 0),), (letter("ann", "", "look", 1),)))["ann"][0][2][2], False)
            self.assertEqual(len(played(history())["ann"]), 5)

    def test_results_can_be_changed(self):
        given = history()
        books = played(given)
        for name in books:
            books[name].append(None)
            books[name].insert(0, "changed")
        del books["ann"]
        books["eve"] = []
        self.assertEqual(list(played(given)), ["bob", "ann", "cat", "dan"])
        self.assertEqual([len(entries) for entries in played(given).values()], [3, 5, 0, 0])
        self.assertEqual(played(given), played(history()))
        for query in (places, ties):
            entries = book()
            result = query(entries)
            kept = list(result)
            result.clear()
            self.assertEqual(query(entries), kept)
            self.assertEqual(entries, book())

    def test_every_list_and_dict_is_new(self):
        given = history()
        one, other = played(given), played(given)
        lists = list(one.values()) + list(other.values())
        self.assertEqual(len({id(entries) for entries in lists}), 8)
        self.assertIsNot(one, other)
        empty = []
        for query in (places, ties):
            results = [query(empty), query(empty), empty]
            self.assertEqual(len({id(entries) for entries in results}), 3)
            entries = book()
            self.assertIsNot(query(entries), query(entries))

    def test_kinds_of_values(self):
        for entries in played(history()).values():
            self.assertIs(type(entries), list)
            for entry in entries:
                self.assertIs(type(entry), tuple)
        for query in (places, ties):
            self.assertTrue(all(type(name) is tuple for name in query(book())))
            self.assertTrue(all(type(number) is int for name in query(book()) for number in name))


if __name__ == "__main__":
    unittest.main()
