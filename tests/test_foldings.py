"""Promise 9: lots, and the steps that lead to them."""

import unittest

from ownwords.errors import NoBook, NoPlace
from ownwords.foldings import are_steps, lots, lots_behind

from tests.helper import LIST, TIE, WALK, deep_list, deep_tuple, row, strange_values, walk


class LotsTest(unittest.TestCase):
    def test_no_rows_no_lots(self):
        self.assertEqual(lots([]), [])
        self.assertEqual(lots_behind([], ()), [])

    def test_all_first_places_are_one_lot_from_the_start(self):
        book = [walk("a", "b"), ("calm", 0), ("met", "c", 1), row("d", WALK, "lost", ""), walk("", "")]
        self.assertEqual(lots(book), [[(0, 0), (1, 0), (2, 0), (3, 0), (4, 0)], [(0, 1)]])
        self.assertEqual(lots_behind(book, ()), lots(book))

    def test_other_places_are_lots_of_their_own(self):
        self.assertEqual(lots([walk("a b c", "d e f")]), [[(0, 0)], [(0, 1)], [(0, 2)], [(0, 3)]])

    def test_lots_are_ordered_by_their_first_places_and_each_is_in_order(self):
        book = [walk("a b", "p q"), walk("c", "r"), walk("a", "p"), walk("c", "r"), walk("a b", "p q")]
        self.assertEqual(lots(book), [
            [(0, 0), (1, 0), (2, 0), (3, 0), (4, 0)], [(0, 1), (2, 1), (4, 1)], [(0, 2), (4, 2)], [(1, 1), (3, 1)],
        ])

    def test_the_same_word_leads_to_the_same_person(self):
        book = [walk("a", "b"), walk("a", "b")]
        self.assertEqual(lots(book), [[(0, 0), (1, 0)], [(0, 1), (1, 1)]])
        # Even if the words at the other ends differ: then it is a clash, but the lots are merged.
        self.assertEqual(lots([walk("a", "b"), walk("a", "c")]), [[(0, 0), (1, 0)], [(0, 1), (1, 1)]])

    def test_the_same_word_of_different_people_does_not(self):
        self.assertEqual(lots([walk("a a", "b c")]), [[(0, 0)], [(0, 1)], [(0, 2)]])

    def test_a_back_leads_to_the_same_person_too(self):
        # The second step goes back along the first tie.
        self.assertEqual(lots([walk("a b", "b a")]), [[(0, 0), (0, 2)], [(0, 1)]])
        # Both ties end at the owner with the word a: so they are one tie.
        self.assertEqual(lots([walk("c", "d"), walk("c d", "d c"), walk("d", "c")]), [
            [(0, 0), (1, 0), (1, 2), (2, 0)], [(0, 1), (1, 1)], [(2, 1)],
        ])

    def test_a_tie_that_was_made_has_ends_too(self):
        book = [row("a b", TIE, "came", "p q", ("u", "v")), walk("u", "v"), walk("u q", "v b"), walk("u v", "v u")]
        self.assertEqual(lots(book), [
            [(0, 0), (1, 0), (2, 0), (3, 0), (3, 2)], [(0, 1), (2, 2)], [(0, 2), (1, 1), (2, 1), (3, 1)],
        ])

    def test_ties_made_twice_by_the_same_words_merge(self):
        book = [row("a", TIE, "came", "p", ("u", "v")), row("b", TIE, "came", "q", ("u", "w"))]
        self.assertEqual(lots(book), [[(0, 0), (1, 0)], [(0, 1), (1, 1)]])

    def test_a_tie_that_was_not_made_has_no_ends(self):
        book = [row("a b", TIE, "lost", "p"), row("b", TIE, "came", "q", "self"), walk("u", "v")]
        self.assertEqual(lots(book), [[(0, 0), (1, 0), (1, 1), (2, 0)], [(0, 1)], [(2, 1)]])

    def test_words_of_lists_and_of_met_rows_and_lost_words_merge_nothing(self):
        book = [
            row("a", LIST, "came", "p", ("b", "p")), row("c", LIST, "came", "q", ("b", "q")), ("met", "a", 1),
            ("met", "c", 2), row("a b", WALK, "lost", "p"), row("c b", WALK, "lost", "q"),
        ]
        self.assertEqual(lots(book), [
            [(number, 0) for number in range(6)], [(0, 1), (4, 1)], [(1, 1), (5, 1)],
        ])

    def test_the_steps_of_a_lost_letter_count(self):
        book = [row("a b", WALK, "lost", "p"), walk("a c", "p q")]
        self.assertEqual(lots(book), [[(0, 0), (1, 0)], [(0, 1), (1, 1)], [(1, 2)]])

    def test_a_look_that_found_merges(self):
        book = [row("a", ("leave", 3), "came", "p", None), row("b", ("look", 3), "came", "q", True)]
        self.assertEqual(lots(book), [[(0, 0), (1, 0)], [(0, 1), (1, 1)]])

    def test_looks_that_merge_nothing(self):
        left = row("a", ("leave", 3), "came", "p", None)
        apart = [[(0, 0), (1, 0)], [(0, 1)], [(1, 1)]]
        self.assertEqual(lots([left, row("b", ("look", 3), "came", "q", False)]), apart)
        self.assertEqual(lots([left, row("b", ("look", 4), "came", "q", True)]), apart)
        self.assertEqual(lots([row("b", ("look", 3), "came", "q", True), left]), apart)
        self.assertEqual(lots([row("a b", ("leave", 3), "lost", "p"), row("b", ("look", 3), "came", "q", True)]), apart)
        self.assertEqual(lots([left, row("b c", ("look", 3), "lost", "q")]), apart)

    def test_self_merges(self):
        for kind, thing in ((TIE, "self"), (("meet", 1), "self")):
            self.assertEqual(lots([row("a b", kind, "came", "p q", thing)]), [[(0, 0), (0, 2)], [(0, 1)]])

    def test_meet_letters_that_came_elsewhere_do_not(self):
        for thing in (None, "met"):
            self.assertEqual(lots([row("a", ("meet", 1), "came", "p", thing)]), [[(0, 0)], [(0, 1)]])

    def test_merges_go_on_until_nothing_is_left_to_merge(self):
        # The look shows that a and b lead to the same person; so their next steps do, and the steps after these.
        book = [
            row("a", ("leave", 1), "came", "p", None), row("b", ("look", 1), "came", "q", True), walk("a x y z", "p 1 2 3"),
            walk("b x y z", "q 1 2 3"),
        ]
        self.assertEqual(lots(book), [
            [(0, 0), (1, 0), (2, 0), (3, 0)], [(0, 1), (1, 1), (2, 1), (3, 1)], [(2, 2), (3, 2)], [(2, 3), (3, 3)],
            [(2, 4), (3, 4)],
        ])

    def test_merges_that_are_found_late(self):
        # Each row shows something only once the rows behind it have been merged.
        book = [
            walk("a x", "p 1"), walk("b x y", "q 1 2"), walk("c x y z", "r 1 2 3"),
            row("c", ("leave", 1), "came", "r", None), row("b", ("look", 1), "came", "q", True),
            row("b", ("leave", 2), "came", "q", None), row("a", ("look", 2), "came", "p", True),
        ]
        self.assertEqual([len(lot) for lot in lots(book)], [7, 7, 3, 2, 1])
        self.assertEqual(lots(book)[2], [(0, 2), (1, 2), (2, 2)])

    def test_twelve_rows(self):
        book = [walk("a b c d a b c d", "p q r s p q r s") for _ in range(12)]
        found = lots(book)
        self.assertEqual(len(found), 9)
        self.assertEqual([lot[0] for lot in found], [(0, step) for step in range(9)])
        self.assertTrue(all(len(lot) == 12 for lot in found))


class PutTest(unittest.TestCase):
    BOOK = [walk("a x", "p 1"), walk("b x", "q 1"), walk("c x", "r 1")]

    def test_pairs_are_merged_and_what_follows_too(self):
        self.assertEqual(lots(self.BOOK, put=[((0, 1), (2, 1))]), [
            [(0, 0), (1, 0), (2, 0)], [(0, 1), (2, 1)], [(0, 2), (2, 2)], [(1, 1)], [(1, 2)],
        ])
        both = [((2, 1), (1, 1)), ((0, 1), (1, 1))]
        self.assertEqual(lots(self.BOOK, put=both), [
            [(0, 0), (1, 0), (2, 0)], [(0, 1), (1, 1), (2, 1)], [(0, 2), (1, 2), (2, 2)],
        ])
        self.assertEqual(lots(self.BOOK, put=tuple(both)), lots(self.BOOK, put=both))

    def test_the_same_place_twice_and_no_pairs(self):
        for pairs in ((), [], [((0, 1), (0, 1))], [((0, 0), (1, 0)), ((1, 2), (1, 2))]):
            self.assertEqual(lots(self.BOOK, put=pairs), lots(self.BOOK))

    def test_the_argument_before_was_not_kept(self):
        lots(self.BOOK, put=[((0, 1), (2, 1))])
        self.assertEqual(len(lots(self.BOOK)), 7)

    def test_put_goes_by_keyword_alone(self):
        with self.assertRaises(TypeError):
            lots(self.BOOK, ())
        with self.assertRaises(TypeError):
            lots_behind(self.BOOK, (), ())
        with self.assertRaises(TypeError):
            are_steps(self.BOOK, (), ())

    def test_lots_behind_steps(self):
        pairs = [((0, 1), (1, 1)), ((1, 2), (2, 2))]
        self.assertEqual(lots_behind(self.BOOK, (), put=pairs), lots_behind(self.BOOK, ()))
        self.assertEqual(len(lots_behind(self.BOOK, (("put", 1),), put=pairs)), 6)
        steps = (("put", 0), ("tie", (1, 2, 0), (0, 2, 0)))
        self.assertEqual(lots_behind(self.BOOK, steps[:1], put=pairs), [
            [(0, 0), (1, 0), (2, 0)], [(0, 1), (1, 1)], [(0, 2)], [(1, 2)], [(2, 1)], [(2, 2)],
        ])
        self.assertEqual(lots_behind(self.BOOK, steps, put=pairs), [
            [(0, 0), (1, 0), (2, 0)], [(0, 1), (1, 1)], [(0, 2), (1, 2)], [(2, 1)], [(2, 2)],
        ])


class StepsTest(unittest.TestCase):
    # Rows 0 and 1 have the tie a, row 2 a tie b; then looks, and letters that came home.
    BOOK = [
        walk("a x", "p 1"), walk("a x", "p 1"), walk("b x", "q 1"),
        row("c", ("leave", 5), "came", "r", None), row("d", ("look", 5), "came", "s", True),
        row("d", ("look", 5), "came", "s", False), row("d", ("look", 6), "came", "s", True),
        row("e", TIE, "came", "t", "self"), row("e", ("meet", 1), "came", "t", "self"),
        row("e", ("meet", 2), "came", "t", None), row("e", ("meet", 3), "came", "t", "met"),
        row("f", TIE, "came", "y", ("g", "h")), row("i j", ("look", 5), "lost", "k"), ("calm", 12), ("met", "a", 9),
        row("c", ("look", 5), "came", "r", True),
    ]

    def check(self, wanted, *steps, put=()):
        self.assertIs(are_steps(self.BOOK, steps, put=put), wanted, steps)

    def test_no_steps(self):
        self.check(True)
        self.assertIs(are_steps([], ()), True)

    def test_tie_steps(self):
        self.check(True, ("tie", (0, 1, 0), (1, 1, 0)))
        self.check(True, ("tie", (1, 1, 0), (0, 1, 0)))
        # Their places are in the same lot only after the step along the first ties.
        self.check(False, ("tie", (0, 2, 0), (1, 2, 0)))
        self.check(True, ("tie", (0, 1, 0), (1, 1, 0)), ("tie", (0, 2, 0), (1, 2, 0)))
        self.check(True, ("tie", (0, 1, 0), (1, 1, 0)), ("tie", (0, 1, 1), (1, 1, 1)), ("tie", (1, 2, 0), (0, 2, 0)))
        self.check(False, ("tie", (0, 2, 0), (1, 2, 0)), ("tie", (0, 1, 0), (1, 1, 0)))

    def test_tie_steps_need_the_same_word(self):
        self.check(False, ("tie", (0, 1, 0), (2, 1, 0)))
        self.check(False, ("tie", (0, 1, 0), (1, 1, 1)))

    def test_tie_steps_need_two_different_ties(self):
        self.check(False, ("tie", (0, 1, 0), (0, 1, 0)))
        self.assertIs(are_steps([walk("a", "a")], (("tie", (0, 1, 0), (0, 1, 1)),), put=[((0, 0), (0, 1))]), False)
        steps = (("put", 0), ("tie", (0, 1, 0), (0, 1, 1)))
        self.assertIs(are_steps([walk("a", "a")], steps, put=[((0, 0), (0, 1))]), False)

    def test_steps_between_places_of_one_lot_are_allowed(self):
        twice = ("tie", (0, 1, 0), (1, 1, 0))
        self.check(True, twice, twice)
        self.check(True, ("look", 4), ("look", 4), ("self", 7), ("self", 7))
        self.check(True, ("put", 0), ("put", 0), put=[((0, 0), (0, 0))])

    def test_ends_of_a_tie_that_was_made(self):
        book = [row("a", TIE, "came", "p", ("u", "v")), walk("u", "v"), walk("a v", "p u")]
        self.assertIs(are_steps(book, (("tie", (0, 2, 0), (1, 1, 0)),)), True)
        self.assertEqual(lots_behind(book, (("tie", (0, 2, 0), (1, 1, 0)),))[1], [(0, 1), (1, 1)])
        back = (("tie", (2, 1, 0), (0, 1, 0)), ("tie", (0, 2, 1), (2, 2, 0)))
        self.assertIs(are_steps(book, back), True)
        self.assertEqual(lots_behind(book, back), [[(0, 0), (1, 0), (2, 0), (2, 2)], [(0, 1), (2, 1)], [(1, 1)]])

    def test_look_steps(self):
        self.check(True, ("look", 4))
        self.check(True, ("look", 15), ("look", 4))
        for number in (0, 3, 5, 6, 7, 11, 12, 13, 14):
            self.check(False, ("look", number))
        self.assertIn([(3, 1), (4, 1)], lots_behind(self.BOOK, (("look", 4),)))
        self.assertIn([(3, 1), (15, 1)], lots_behind(self.BOOK, (("look", 15),)))

    def test_self_steps(self):
        self.check(True, ("self", 7))
        self.check(True, ("self", 8), ("self", 7))
        for number in (0, 4, 9, 10, 11, 13, 14):
            self.check(False, ("self", number))
        self.assertIn((8, 1), lots_behind(self.BOOK, (("self", 8),))[0])
        self.assertNotIn((7, 1), lots_behind(self.BOOK, (("self", 8),))[0])

    def test_put_steps(self):
        pairs = [((0, 1), (2, 1)), ((0, 2), (0, 0))]
        self.check(True, ("put", 0), put=pairs)
        self.check(True, ("put", 1), ("put", 0), put=pairs)
        self.check(True, ("put", 0), ("tie", (0, 2, 0), (2, 2, 0)), put=pairs)
        self.check(False, ("put", 1), ("tie", (0, 2, 0), (2, 2, 0)), put=pairs)
        self.check(False, ("put", 2), put=pairs)
        self.check(False, ("put", -1), put=pairs)
        self.check(False, ("put", 0))

    def test_numbers_that_nothing_has(self):
        for step in (
            ("look", -1), ("look", 16), ("look", 10 ** 4299), ("self", -9), ("self", 99), ("put", -1), ("put", 1),
            ("tie", (0, 1, 0), (99, 1, 0)), ("tie", (0, 1, 0), (1, 0, 0)), ("tie", (0, 1, 0), (1, 3, 0)),
            ("tie", (0, 1, 0), (1, 1, 2)), ("tie", (0, 1, 0), (1, 1, -1)), ("tie", (-1, 1, 0), (0, 1, 0)),
            ("tie", (0, 1), (1, 1, 0)), ("tie", (0, 1), (1, 1)), ("tie", (0, 1, 0, 0), (1, 1, 0, 0)),
        ):
            self.check(False, step, put=[((0, 0), (0, 0))])

    def test_truths_are_no_numbers(self):
        book = [row("a", ("leave", 1), "came", "b", None), row("a", ("look", 1), "came", "b", True)]
        for step in (("tie", (0, 1, 0), (1, 1, 0)), ("look", 1)):
            self.assertIs(are_steps(book, (step,)), True)
        for step in (
            ("look", True), ("tie", (False, 1, 0), (1, 1, 0)), ("tie", (0, True, 0), (1, 1, 0)),
            ("tie", (0, 1, False), (1, 1, 0)), ("tie", (0, 1, 0), (True, 1, 0)), ("tie", (0, 1, 0), (1, 1, False)),
        ):
            self.assertIs(are_steps(book, (step,)), False, step)
        self.assertIs(are_steps(book, (("put", False),), put=[((0, 1), (1, 1))]), False)
        book = [walk("", ""), row("a", TIE, "came", "b", "self")]
        self.assertIs(are_steps(book, (("self", 1),)), True)
        self.assertIs(are_steps(book, (("self", True),)), False)

    def test_other_forms(self):
        tie = ("tie", (0, 1, 0), (1, 1, 0))
        for thing in (
            [tie], tie, (list(tie),), (("tie", [0, 1, 0], (1, 1, 0)),), (("tie", (0, 1, 0), [1, 1, 0]),), (tie[:2],),
            (tie + (0,),), (("Tie",) + tie[1:],), ((tie,),), (("tie", "010", "110"),), (("look", 4, 4),), (("look",),),
            (("look", "4"),), (("look", (4,)),), (("self", [7]),), (("self",),), (("meet", 7),), (("put", (0,)),),
            (("put",),), (("put", 0, 0),), (("tie", (("0",), 1, 0), (1, 1, 0)),), (("tie", (0, 1, None), (1, 1, 0)),),
            (tie, None), (None, tie), (tie, ["look", 4]), ((),), "tie", {}, (("tie", 0, 1),),
        ):
            self.assertIs(are_steps(self.BOOK, thing, put=[((0, 0), (0, 0))]), False, thing)

    def test_values_of_all_kinds(self):
        for value in strange_values():
            if value != ():
                self.assertIs(are_steps(self.BOOK, value), False)
            for step in (
                value, ("tie", value, value), ("tie", (0, 1, 0), value), ("tie", value, (0, 1, 0)), ("look", value),
                ("self", value), ("put", value), (value, 4), (value, (0, 1, 0), (1, 1, 0)), (value,),
                ("tie", (value, 1, 0), (value, 1, 0)), ("tie", (0, 1, 0), (1, 1, value)), ("look", 4, value),
            ):
                if step not in (("tie", (0, 1, 0), (1, 1, 0)), ("put", 0)):
                    self.assertIs(are_steps(self.BOOK, (step,)), False)


class ErrorsTest(unittest.TestCase):
    CALLS = (
        lambda book, put: lots(book, put=put),
        lambda book, put: lots_behind(book, (), put=put),
        lambda book, put: are_steps(book, (), put=put),
        lambda book, put: are_steps(book, None, put=put),
    )

    def test_no_book_comes_first(self):
        for call in self.CALLS:
            for book, number in ((None, None), ((), None), ({}, None), ([None], 0), ([walk("a", "b"), ("met", 1, 1)], 1)):
                for put in ((), [((9, 9), None)]):
                    with self.assertRaises(NoBook) as caught:
                        call(book, put)
                    self.assertEqual((caught.exception.name, caught.exception.row), (None, number))

    def test_books_of_all_kinds(self):
        for value in strange_values():
            for call in self.CALLS:
                if value != []:
                    with self.assertRaises(NoBook):
                        call(value, ())
                with self.assertRaises(NoBook) as caught:
                    call([walk("", ""), value], ())
                self.assertEqual(caught.exception.row, 1)

    def test_places_are_checked_pair_by_pair(self):
        book = [walk("a", "b")]
        for call in self.CALLS:
            for put, place in (
                ([((0, 0), (0, 2))], (0, 2)), ([((0, 2), (0, 3))], (0, 2)), ([((0, 1), (1, 0)), ((9, 9), (8, 8))], (1, 0)),
                ([((0, 0), (0, 1)), ((0, 0), (0, -1))], (0, -1)), ((((0, 0), (0, 1)), ((0, True), (7, 7))), (0, True)),
                ([((False, 0), (0, 0))], (False, 0)),
            ):
                with self.assertRaises(NoPlace) as caught:
                    call(book, put)
                self.assertEqual(repr(caught.exception.place), repr(place))

    def test_places_of_all_kinds(self):
        book = [walk("a", "b")]
        for value in strange_values() + [(0, 0, 0), [0, 0], (0,), "00", 0, (deep_tuple(), 0), (0, deep_list())]:
            if value == (0, 0):
                continue
            for call in self.CALLS:
                for pair in ((value, (0, 0)), ((0, 0), value)):
                    with self.assertRaises(NoPlace) as caught:
                        call(book, [pair])
                    self.assertIs(caught.exception.place, value)


if __name__ == "__main__":
    unittest.main()
