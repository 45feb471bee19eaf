"""Promises 5 and 6: what valid histories write into the books of their owners."""

import unittest

from ownwords.histories import played

from tests.helper import WALK, born, calm, gone, letter, row

ANN = (("ann", 0),)
PAIR = (("ann", 0), ("bob", 1))


def book_of(people, owners, *events):
    """The book of the first owner."""
    return played((people, owners, events))[owners[0][0]]


class OwnersTest(unittest.TestCase):
    def test_history_without_owners_or_events(self):
        self.assertEqual(played((1, (), ())), {})
        self.assertEqual(played((2, (), (born(0, "u", 1, "v"), gone(1, "v")))), {})

    def test_owners_without_letters_have_empty_books(self):
        books = played((2, PAIR, (letter("bob", "", *WALK),)))
        self.assertEqual(books, {"ann": [], "bob": [row("", WALK, "came", "", None)]})

    def test_books_stand_in_the_order_of_the_owners(self):
        for names in (("b", "c", "a"), ("c", "b", "a"), ("a", "c", "b")):
            owners = tuple((name, 2 - number) for number, name in enumerate(names))
            # The order of the letters is another one, and does not matter.
            events = tuple(letter(name, "", *WALK) for name in sorted(names))
            books = played((3, owners, events))
            self.assertEqual(tuple(books), names)
            self.assertIs(type(books), dict)
            self.assertTrue(all(type(book) is list for book in books.values()))

    def test_longest_names_words_and_greatest_numbers(self):
        last = 10 ** 30 - 1
        books = played((2, (("abcdefgh", 0), ("z", 1)), (
            born(0, "a1b2c3", 1, "0"),
            letter("abcdefgh", "a1b2c3", "leave", last),
            letter("abcdefgh", "a1b2c3", "leave", 0),
            letter("abcdefgh", "a1b2c3", "meet", last),
            letter("z", "0", "meet", 0),
        )))
        self.assertEqual(list(books), ["abcdefgh", "z"])
        self.assertEqual(books["abcdefgh"], [
            row("a1b2c3", ("leave", last), "came", "0", None),
            row("a1b2c3", ("leave", 0), "came", "0", None),
            row("a1b2c3", ("meet", last), "came", "0", "met"),
            ("met", "a1b2c3", 0),
        ])

    def test_owner_need_not_be_person_zero(self):
        book = book_of(4, (("ann", 3),), born(0, "u", 3, "v"), letter("ann", "v", "list"))
        self.assertEqual(book, [row("v", ("list",), "came", "u", ("u",))])


class WaysTest(unittest.TestCase):
    def test_empty_way_arrives_at_its_own_owner(self):
        book = book_of(2, ANN, born(0, "u", 1, "v"), letter("ann", "", *WALK), letter("ann", "", "list"))
        self.assertEqual(book, [row("", WALK, "came", "", None), row("", ("list",), "came", "", ("u",))])

    def test_each_word_belongs_to_the_person_reached_so_far(self):
        book = book_of(
            4, ANN,
            born(0, "a", 1, "b"), born(1, "a", 2, "c"), born(3, "d", 2, "a"),
            letter("ann", "a a a", *WALK), letter("ann", "a a", *WALK), letter("ann", "a", *WALK),
        )
        self.assertEqual(book, [
            row("a a a", WALK, "came", "b c d", None),
            row("a a", WALK, "came", "b c", None),
            row("a", WALK, "came", "b", None),
        ])

    def test_letter_is_lost_where_the_word_is_none(self):
        book = book_of(
            3, ANN,
            born(0, "a", 1, "b"), born(1, "c", 2, "d"),
            letter("ann", "x", *WALK), letter("ann", "c", *WALK), letter("ann", "a a", *WALK),
            letter("ann", "a c c", *WALK), letter("ann", "a x c d", *WALK), letter("ann", "b a", *WALK),
        )
        self.assertEqual(book, [
            row("x", WALK, "lost", ""),
            row("c", WALK, "lost", ""),
            row("a a", WALK, "lost", "b"),
            row("a c c", WALK, "lost", "b d"),
            row("a x c d", WALK, "lost", "b"),
            row("b a", WALK, "lost", ""),
        ])

    def test_along_a_tie_and_back(self):
        book = book_of(
            2, ANN, born(0, "a", 1, "b"),
            letter("ann", "a b", "list"), letter("ann", "a b a", *WALK), letter("ann", "a b a b a b a b", *WALK),
        )
        self.assertEqual(book, [
            row("a b", ("list",), "came", "b a", ("a",)),
            row("a b a", WALK, "came", "b a b", None),
            row("a b a b a b a b", WALK, "came", "b a b a b a b a", None),
        ])

    def test_ties_are_born_and_end_between_letters(self):
        book = book_of(
            3, ANN,
            letter("ann", "a", *WALK), born(0, "a", 1, "b"), letter("ann", "a", *WALK),
            letter("ann", "a c", *WALK), born(2, "d", 1, "c"), letter("ann", "a c", *WALK),
            gone(1, "b"), letter("ann", "a c", *WALK), gone(2, "d"), letter("ann", "a", *WALK),
        )
        self.assertEqual(book, [
            row("a", WALK, "lost", ""),
            row("a", WALK, "came", "b", None),
            row("a c", WALK, "lost", "b"),
            row("a c", WALK, "came", "b d", None),
            row("a c", WALK, "lost", ""),
            row("a", WALK, "lost", ""),
        ])

    def test_two_ties_between_the_same_people(self):
        book = book_of(
            2, ANN, born(0, "a", 1, "b"), born(0, "b", 1, "a"), gone(0, "a"),
            letter("ann", "a", *WALK), letter("ann", "b", "list"), letter("ann", "b b", *WALK),
        )
        self.assertEqual(book, [
            row("a", WALK, "lost", ""),
            row("b", ("list",), "came", "a", ("a",)),
            row("b b", WALK, "lost", "a"),
        ])

    def test_letters_that_pass_or_end_at_owners_leave_no_row(self):
        books = played((3, (("ann", 0), ("bob", 1), ("cat", 2)), (
            born(0, "a", 1, "b"), born(1, "c", 2, "d"),
            letter("ann", "a c", *WALK), letter("ann", "a", "list"), letter("ann", "a", "leave", 1),
            letter("ann", "a c", "tie", "e", "f"), letter("ann", "a", "part"),
        )))
        self.assertEqual(books["bob"], [])
        self.assertEqual(books["cat"], [])
        self.assertEqual(len(books["ann"]), 5)


class BoundsTest(unittest.TestCase):
    def test_four_hundred_people_and_six_hundred_events(self):
        ring = tuple(born(person, "up", (person + 1) % 400, "down") for person in range(400))
        ahead = tuple(letter("ann", "up up up up up up up up", "leave", mark) for mark in range(100))
        back = tuple(letter("bob", "down down down down down down down down", "list") for _ in range(100))
        books = played((400, (("ann", 0), ("bob", 399)), ring + ahead + back))
        self.assertEqual(books["ann"], [
            row("up up up up up up up up", ("leave", mark), "came", "down " * 8, None) for mark in range(100)
        ])
        self.assertEqual(books["bob"], [
            row("down " * 8, ("list",), "came", "up up up up up up up up", ("down", "up"))
        ] * 100)


class ListTest(unittest.TestCase):
    def test_words_in_use_by_the_person_reached_are_sorted(self):
        book = book_of(
            3, ANN,
            born(0, "z", 1, "b"), born(1, "a9", 2, "x"), born(1, "a10", 2, "y"), born(2, "w", 1, "9"),
            letter("ann", "z", "list"), letter("ann", "z 9", "list"),
        )
        self.assertEqual(book, [
            row("z", ("list",), "came", "b", ("9", "a10", "a9", "b")),
            row("z 9", ("list",), "came", "b w", ("w", "x", "y")),
        ])

    def test_words_of_ended_ties_are_not_in_use(self):
        book = book_of(
            2, ANN,
            letter("ann", "", "list"), born(0, "a", 1, "b"), born(1, "c", 0, "d"), letter("ann", "", "list"),
            gone(0, "a"), letter("ann", "", "list"), gone(1, "c"), letter("ann", "", "list"),
        )
        self.assertEqual([entry[2][2] for entry in book], [(), ("a", "d"), ("d",), ()])

    def test_lost_list_brings_nothing(self):
        self.assertEqual(book_of(1, ANN, letter("ann", "a", "list")), [row("a", ("list",), "lost", "")])


class MarksTest(unittest.TestCase):
    def looks(self, *events):
        """What the looks of ann saw."""
        book = played((4, PAIR, events))["ann"]
        return [entry[2][2] if entry[2][0] == "came" else "lost" for entry in book if entry[1][0] == "look"]

    def test_mark_is_where_it_was_left_and_nowhere_else(self):
        found = self.looks(
            born(0, "a", 2, "b"), born(2, "c", 3, "d"), born(0, "e", 3, "f"),
            letter("ann", "a c", "leave", 4), letter("ann", "e", "look", 4), letter("ann", "a", "look", 4),
            letter("ann", "", "look", 4), letter("ann", "e", "look", 5), letter("ann", "a c f", "look", 4),
            letter("ann", "a c f e", "look", 4),
        )
        self.assertEqual(found, [True, False, False, False, False, True])
        self.assertTrue(all(type(seen) is bool for seen in found))

    def test_mark_stays_for_ever_and_only_from_then_on(self):
        found = self.looks(
            born(0, "a", 2, "b"), letter("ann", "a", "look", 0), letter("ann", "a", "leave", 0),
            gone(0, "a"), letter("ann", "a", "look", 0), born(0, "c", 2, "d"), letter("ann", "c", "look", 0),
        )
        self.assertEqual(found, [False, "lost", True])

    def test_mark_at_its_own_owner(self):
        found = self.looks(
            born(0, "a", 2, "b"), letter("ann", "", "leave", 1),
            letter("ann", "a b", "look", 1), letter("ann", "a", "look", 1),
        )
        self.assertEqual(found, [True, False])

    def test_several_marks_at_one_person(self):
        found = self.looks(
            letter("ann", "", "leave", 1), letter("ann", "", "leave", 2),
            letter("ann", "", "look", 1), letter("ann", "", "look", 2), letter("ann", "", "look", 3),
        )
        self.assertEqual(found, [True, True, False])

    def test_owners_have_marks_of_their_own(self):
        events = (
            born(0, "a", 1, "b"), letter("bob", "", "leave", 1), letter("ann", "a", "look", 1),
            letter("ann", "", "leave", 1), letter("ann", "", "look", 1), letter("ann", "a", "look", 1),
            letter("bob", "", "look", 1), letter("bob", "b", "look", 1),
        )
        self.assertEqual(self.looks(*events), [False, True, False])
        self.assertEqual([entry[2][2] for entry in played((2, PAIR, events))["bob"]], [None, True, False])

    def test_lost_leave_leaves_nothing_and_lost_look_sees_nothing(self):
        book = book_of(
            3, ANN, born(0, "a", 1, "b"),
            letter("ann", "a x", "leave", 1), letter("ann", "a", "look", 1), letter("ann", "", "look", 1),
            letter("ann", "x", "look", 1),
        )
        self.assertEqual(book, [
            row("a x", ("leave", 1), "lost", "b"),
            row("a", ("look", 1), "came", "b", False),
            row("", ("look", 1), "came", "", False),
            row("x", ("look", 1), "lost", ""),
        ])


class TieTest(unittest.TestCase):
    def test_tie_is_made_between_the_owner_and_the_person_reached(self):
        book = book_of(
            3, ANN, born(0, "a", 1, "b"), born(1, "c", 2, "d"),
            letter("ann", "a c", "tie", "e", "f"), letter("ann", "e", "list"), letter("ann", "e f", "list"),
            letter("ann", "a", "list"),
        )
        self.assertEqual(book, [
            row("a c", ("tie",), "came", "b d", ("e", "f")),
            row("e", ("list",), "came", "f", ("d", "f")),
            row("e f", ("list",), "came", "f e", ("a", "e")),
            row("a", ("list",), "came", "b", ("b", "c")),
        ])

    def test_the_same_word_at_both_ends(self):
        book = book_of(2, ANN, born(0, "a", 1, "a"), letter("ann", "a", "tie", "e", "e"), letter("ann", "e e", *WALK))
        self.assertEqual(book, [row("a", ("tie",), "came", "a", ("e", "e")), row("e e", WALK, "came", "e e", None)])

    def test_nothing_happens_at_the_own_owner_whatever_the_words(self):
        book = book_of(
            2, ANN, born(0, "a", 1, "b"),
            letter("ann", "", "tie", "e", "f"), letter("ann", "a b", "tie", "a", "a"), letter("ann", "", "tie", "e", "e"),
            letter("ann", "", "list"), letter("ann", "a", "tie", "e", "f"),
        )
        self.assertEqual(book, [
            row("", ("tie",), "came", "", "self"),
            row("a b", ("tie",), "came", "b a", "self"),
            row("", ("tie",), "came", "", "self"),
            row("", ("list",), "came", "", ("a",)),
            row("a", ("tie",), "came", "b", ("e", "f")),
        ])

    def test_lost_tie_makes_nothing_whatever_the_words(self):
        book = book_of(
            2, ANN, born(0, "a", 1, "b"),
            letter("ann", "a x", "tie", "a", "b"), letter("ann", "x", "tie", "e", "f"),
            letter("ann", "", "list"), letter("ann", "a", "list"), letter("ann", "a", "tie", "e", "f"),
        )
        self.assertEqual(book, [
            row("a x", ("tie",), "lost", "b"),
            row("x", ("tie",), "lost", ""),
            row("", ("list",), "came", "", ("a",)),
            row("a", ("list",), "came", "b", ("b",)),
            row("a", ("tie",), "came", "b", ("e", "f")),
        ])


class PartTest(unittest.TestCase):
    def test_last_tie_followed_ends_at_both_people(self):
        book = book_of(
            3, ANN, born(0, "a", 1, "b"), born(1, "c", 2, "d"), born(2, "e", 0, "f"),
            letter("ann", "a c", "part"), letter("ann", "a c", *WALK), letter("ann", "a", "list"),
            letter("ann", "f", "list"), letter("ann", "", "list"),
        )
        self.assertEqual(book, [
            row("a c", ("part",), "came", "b d", None),
            row("a c", WALK, "lost", "b"),
            row("a", ("list",), "came", "b", ("b",)),
            row("f", ("list",), "came", "e", ("e",)),
            row("", ("list",), "came", "", ("a", "f")),
        ])

    def test_tie_followed_there_and_back_ends(self):
        book = book_of(
            3, ANN, born(0, "a", 1, "b"), born(1, "c", 2, "d"),
            letter("ann", "a c d", "part"), letter("ann", "a c", *WALK), letter("ann", "a b", "part"),
            letter("ann", "", "list"),
        )
        self.assertEqual(book, [
            row("a c d", ("part",), "came", "b d c", None),
            row("a c", WALK, "lost", "b"),
            row("a b", ("part",), "came", "b a", None),
            row("", ("list",), "came", "", ()),
        ])

    def test_lost_part_ends_nothing(self):
        book = book_of(
            2, ANN, born(0, "a", 1, "b"),
            letter("ann", "a x", "part"), letter("ann", "x", "part"), letter("ann", "a", "list"),
        )
        self.assertEqual(book, [
            row("a x", ("part",), "lost", "b"),
            row("x", ("part",), "lost", ""),
            row("a", ("list",), "came", "b", ("b",)),
        ])

    def test_only_one_of_two_ties_between_the_same_people_ends(self):
        book = book_of(
            2, ANN, born(0, "a", 1, "b"), born(0, "c", 1, "d"),
            letter("ann", "a d c", "part"), letter("ann", "", "list"), letter("ann", "a", "list"),
        )
        self.assertEqual([entry[2][2] for entry in book], [None, ("a",), ("b",)])

    def test_made_tie_can_be_parted(self):
        book = book_of(
            2, ANN, born(0, "a", 1, "b"),
            letter("ann", "a", "tie", "c", "d"), letter("ann", "c", "part"), letter("ann", "a", "list"),
        )
        self.assertEqual([entry[2] for entry in book], [
            ("came", ("b",), ("c", "d")), ("came", ("d",), None), ("came", ("b",), ("b",)),
        ])


class MeetTest(unittest.TestCase):
    def test_what_meet_letters_return_and_whom_they_tell(self):
        books = played((4, (("ann", 0), ("bob", 1), ("cat", 2)), (
            born(0, "a", 1, "b"), born(1, "c", 2, "d"), born(0, "e", 3, "f"), born(3, "g", 2, "h"),
            letter("ann", "", "meet", 9), letter("ann", "a b", "meet", 8), letter("ann", "a", "meet", 7),
            letter("ann", "e", "meet", 6), letter("ann", "a c", "meet", 5), letter("ann", "e g", "meet", 4),
            letter("ann", "a x", "meet", 3), letter("bob", "b", "meet", 2), letter("ann", "", *WALK),
        )))
        self.assertEqual(books, {
            "ann": [
                row("", ("meet", 9), "came", "", "self"),
                row("a b", ("meet", 8), "came", "b a", "self"),
                row("a", ("meet", 7), "came", "b", "met"),
                row("e", ("meet", 6), "came", "f", None),
                row("a c", ("meet", 5), "came", "b d", "met"),
                row("e g", ("meet", 4), "came", "f h", "met"),
                row("a x", ("meet", 3), "lost", "b"),
                ("met", "a", 2),
                row("", WALK, "came", "", None),
            ],
            "bob": [("met", "b", 7), row("b", ("meet", 2), "came", "a", "met")],
            "cat": [("met", "d", 5), ("met", "h", 4)],
        })

    def test_the_met_row_stands_where_the_letter_came(self):
        books = played((2, PAIR, (
            born(0, "a", 1, "b"), letter("bob", "", *WALK), letter("ann", "a", "meet", 1), letter("bob", "b", *WALK),
        )))
        self.assertEqual(books["bob"], [
            row("", WALK, "came", "", None), ("met", "b", 1), row("b", WALK, "came", "a", None),
        ])

    def test_a_letter_through_another_owner_to_its_own(self):
        books = played((3, PAIR, (
            born(0, "a", 1, "b"), born(1, "c", 0, "d"), letter("ann", "a c", "meet", 1), letter("bob", "c a", "meet", 2),
        )))
        self.assertEqual(books, {
            "ann": [row("a c", ("meet", 1), "came", "b d", "self")],
            "bob": [row("c a", ("meet", 2), "came", "d b", "self")],
        })


class CalmTest(unittest.TestCase):
    def last_rows(self, *events):
        """The calm rows of ann."""
        return [entry for entry in played((4, PAIR, events))["ann"] if entry[0] == "calm"]

    def test_calm_adds_a_row(self):
        books = played((2, PAIR, (letter("ann", "x", *WALK), calm("ann", 0))))
        self.assertEqual(books, {"ann": [row("x", WALK, "lost", ""), ("calm", 0)], "bob": []})

    def test_calm_since_any_row_and_since_calm_rows(self):
        self.assertEqual(self.last_rows(
            letter("ann", "", *WALK), letter("ann", "", *WALK), calm("ann", 1), calm("ann", 0), calm("ann", 2),
            letter("ann", "", *WALK), calm("ann", 0), calm("ann", 5), calm("ann", 7),
        ), [("calm", 1), ("calm", 0), ("calm", 2), ("calm", 0), ("calm", 5), ("calm", 7)])

    def test_own_ties_and_parts_keep_the_calm(self):
        self.assertEqual(self.last_rows(
            born(0, "a", 2, "b"), letter("ann", "a", *WALK), letter("ann", "a", "tie", "c", "d"), calm("ann", 0),
            letter("ann", "c", "part"), calm("ann", 0), calm("ann", 3), letter("ann", "a", "part"), calm("ann", 0),
        ), [("calm", 0), ("calm", 0), ("calm", 3), ("calm", 0)])

    def test_changes_before_the_letter_of_the_row_do_not_matter(self):
        self.assertEqual(self.last_rows(
            letter("ann", "", *WALK), born(0, "a", 1, "b"), letter("bob", "b", "tie", "c", "d"),
            letter("ann", "a", "meet", 1), letter("bob", "b", "meet", 2), letter("ann", "", *WALK), calm("ann", 3),
        ), [("calm", 3)])

    def test_other_owners_letters_that_change_nothing_keep_the_calm(self):
        self.assertEqual(self.last_rows(
            born(0, "a", 1, "b"), born(1, "c", 2, "d"), letter("ann", "a", *WALK),
            letter("bob", "x", "tie", "e", "f"), letter("bob", "", "tie", "e", "f"), letter("bob", "b x", "part"),
            letter("bob", "b", "list"), letter("bob", "b", "leave", 1), letter("bob", "b", "look", 1),
            letter("bob", "b a", "meet", 1), letter("bob", "c", "meet", 2), letter("bob", "b x", "meet", 3),
            letter("bob", "b", *WALK), letter("ann", "a", "meet", 4), calm("ann", 0),
        ), [("calm", 0)])

    def test_each_owner_has_a_calm_of_their_own(self):
        books = played((3, PAIR, (
            born(0, "a", 1, "b"), letter("ann", "", *WALK), letter("bob", "", *WALK), letter("ann", "a", "tie", "c", "d"),
            calm("ann", 0), letter("bob", "", *WALK), calm("bob", 1), calm("bob", 2), letter("ann", "a", "meet", 3),
            letter("bob", "", *WALK), calm("bob", 5), calm("ann", 0),
        )))
        self.assertEqual([entry[1] for entry in books["ann"] if entry[0] == "calm"], [0, 0])
        self.assertEqual([entry[1] for entry in books["bob"] if entry[0] == "calm"], [1, 2, 5])


if __name__ == "__main__":
    unittest.main()
