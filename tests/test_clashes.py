"""Promise 10: clashes, their order, and clashes behind some of the steps."""

import unittest

from ownwords.clashes import clash_of, fold_paper, is_clash
from ownwords.errors import NoBook, NoPlace
from ownwords.foldings import are_steps, lots, lots_behind

from tests.helper import LIST, TIE, WALK, deep_list, deep_tuple, row, strange_values, walk


def meet(way, backs, sign, thing):
    """The row of a meet letter that came."""
    return row(way, ("meet", sign), "came", backs, thing)


class ClashCase(unittest.TestCase):
    def check(self, book, clash, put=()):
        """The first clash of the book is this one, and all three functions say so."""
        self.assertEqual(clash_of(book, put=put), clash)
        steps, same = fold_paper(book, put=put)
        self.assertEqual(same, clash)
        self.assertIsInstance(steps, tuple)
        self.assertIs(are_steps(book, steps, put=put), True)
        self.assertEqual(lots_behind(book, steps, put=put), lots(book, put=put))
        if clash is not None:
            self.assertIs(is_clash(book, steps, clash, put=put), True)

    def check_now(self, wanted, book, steps, thing, put=()):
        """Whether this is a clash behind these steps."""
        self.assertIs(is_clash(book, steps, thing, put=put), wanted, thing)


class NoClashTest(ClashCase):
    def test_the_empty_book(self):
        self.check([], None)
        self.assertEqual(fold_paper([]), ((), None))

    def test_books_without_a_clash(self):
        self.check([walk("a b", "b a")], None)
        self.check([walk("a a", "b c"), row("a a b", WALK, "lost", "b c"), ("calm", 0), ("met", "a", 1)], None)
        self.check([row("a", ("look", 1), "came", "b", False), row("c", ("leave", 1), "came", "d", None)], None)

    def test_nothing_is_a_clash_of_the_empty_book(self):
        for thing in (
            ("words", (0, 1, 0), (1, 1, 0)), ("loop", (0, 1)), ("apart", 0), ("unleft", 0), ("keeps", 0, None),
            ("keeps", 0, 1), ("life", (0, 0), "a"), None, (),
        ):
            self.check_now(False, [], (), thing)


class WordsTest(ClashCase):
    def test_the_same_word_with_two_words_at_the_other_end(self):
        book = [walk("a", "b"), walk("a", "c")]
        self.check(book, ("words", (0, 1, 0), (1, 1, 0)))
        self.check_now(True, book, (), ("words", (0, 1, 0), (1, 1, 0)))
        self.check_now(True, book, (), ("words", (1, 1, 0), (0, 1, 0)))
        self.check_now(False, book, (), ("words", (0, 1, 1), (1, 1, 1)))
        self.check_now(False, book, (), ("words", (0, 1, 0), (0, 1, 0)))
        self.check_now(False, book, (), ("words", (0, 1, 0), (0, 1, 1)))

    def test_only_in_one_lot_and_with_one_word(self):
        book = [walk("x a", "1 b"), walk("y a", "2 c")]
        self.check(book, None)
        self.check_now(False, book, (), ("words", (0, 2, 0), (1, 2, 0)))
        self.check_now(False, book, (), ("words", (0, 1, 0), (1, 1, 0)))
        put = [((0, 1), (1, 1))]
        self.check(book, ("words", (0, 2, 0), (1, 2, 0)), put)
        self.check_now(True, book, (("put", 0),), ("words", (0, 2, 0), (1, 2, 0)), put)
        self.check_now(False, book, (), ("words", (0, 2, 0), (1, 2, 0)), put)

    def test_the_same_other_words_are_no_clash(self):
        book = [walk("a", "b"), walk("a", "b")]
        self.check(book, None)
        self.check_now(False, book, (), ("words", (0, 1, 0), (1, 1, 0)))

    def test_ties_that_were_made(self):
        book = [row("a", TIE, "came", "b", ("u", "v")), walk("u", "w")]
        self.check(book, ("words", (0, 2, 0), (1, 1, 0)))
        book = [row("a", TIE, "came", "b", ("u", "v")), walk("a v", "b w")]
        self.check(book, ("words", (0, 2, 1), (1, 2, 0)))

    def test_two_ends_of_one_tie_are_no_clash(self):
        # Both ends have the word a and are in one lot, and the words of the other ends are equal; it is a loop.
        self.check([walk("a", "a")], ("loop", (0, 1)), [((0, 0), (0, 1))])

    def test_a_tie_met_from_both_ends(self):
        # The owner calls it a, and whoever is there b; then the letter comes back by a b that is another's.
        book = [walk("a b", "b c")]
        self.check(book, ("words", (0, 1, 1), (0, 2, 0)))

    def test_the_least_pair_comes_first(self):
        book = [walk("d", "1"), walk("b", "x"), walk("c", "x"), walk("c", "y"), walk("b", "y"), walk("b", "z")]
        self.check(book, ("words", (1, 1, 0), (4, 1, 0)))
        # The lots are in another order than their ends.
        book = [walk("a", "1"), walk("a b", "1 x"), walk("c", "x"), walk("a b", "1 y"), walk("c", "y")]
        self.check(book, ("words", (1, 2, 0), (3, 2, 0)))


class LoopTest(ClashCase):
    def test_a_tie_with_oneself(self):
        book = [walk("a b", "c d"), row("a b e", TIE, "came", "c d f", "self")]
        self.check(book, None)
        book.append(row("a b e", ("meet", 1), "came", "c d f", "self"))
        self.check(book, None)
        book = [row("a b", TIE, "came", "c d", "self"), row("a", TIE, "came", "c", "self")]
        # The owner, reached after the first step, would be at both ends of the first step's tie.
        self.check(book, ("loop", (0, 1)))
        self.check_now(False, book, (), ("loop", (0, 1)))
        self.check_now(False, book, (("self", 0),), ("loop", (0, 1)))
        self.check_now(False, book, (("self", 1),), ("loop", (0, 1)))
        self.check_now(True, book, (("self", 1),), ("loop", (1, 1)))
        self.check_now(True, book, (("self", 1), ("tie", (0, 1, 0), (1, 1, 0))), ("loop", (0, 1)))

    def test_a_tie_that_was_made(self):
        book = [row("a", TIE, "came", "b", ("u", "v"))]
        self.check(book, ("loop", (0, 1)), [((0, 0), (0, 1))])
        self.check_now(True, book, (("put", 0),), ("loop", (0, 2)), [((0, 0), (0, 1))])
        self.check_now(False, book, (), ("loop", (0, 2)), [((0, 0), (0, 1))])
        # Without a step nobody can make a tie with themselves.
        self.check([row("", TIE, "came", "", ("u", "v"))], ("loop", (0, 1)))

    def test_the_least_tie_comes_first(self):
        book = [walk("a b c", "1 2 3"), walk("d", "4")]
        self.check(book, ("loop", (0, 2)), [((0, 1), (0, 2))])
        self.check(book, ("loop", (0, 3)), [((1, 1), (0, 0)), ((0, 3), (0, 2))])
        self.check(book, ("loop", (0, 1)), [((1, 1), (0, 0)), ((0, 1), (0, 0))])

    def test_words_come_before_loops(self):
        book = [walk("a", "b"), walk("c", "d"), walk("c", "e")]
        self.check(book, ("words", (1, 1, 0), (2, 1, 0)), [((0, 0), (0, 1))])


class LooksTest(ClashCase):
    LEFT = row("a", ("leave", 1), "came", "b", None)

    def test_apart(self):
        book = [self.LEFT, row("a", ("look", 1), "came", "b", False)]
        self.check(book, ("apart", 1))
        step = ("tie", (0, 1, 0), (1, 1, 0))
        self.check_now(True, book, (step,), ("apart", 1))
        self.check_now(False, book, (), ("apart", 1))
        self.check_now(False, book, (step,), ("apart", 0))
        self.check([row("", ("leave", 1), "came", "", None), row("", ("look", 1), "came", "", False)], ("apart", 1))

    def test_looks_that_are_no_clash(self):
        for book in (
            [self.LEFT, row("a", ("look", 1), "came", "b", True)],
            [self.LEFT, row("c", ("look", 1), "came", "b", False)],
            [self.LEFT, row("a", ("look", 2), "came", "b", False)],
            [row("a", ("look", 1), "came", "b", False), self.LEFT],
            [row("a c", ("leave", 1), "lost", "b"), row("a", ("look", 1), "came", "b", False)],
            [self.LEFT, row("a c", ("look", 1), "lost", "b")],
        ):
            self.check(book, None)
            for number in range(2):
                for kind in ("apart", "unleft"):
                    self.check_now(False, book, fold_paper(book)[0], (kind, number))

    def test_unleft(self):
        look = row("a", ("look", 1), "came", "b", True)
        for book, number in (
            ([look], 0), ([look, self.LEFT], 0), ([row("a c", ("leave", 1), "lost", "b"), look], 1),
            ([row("a", ("leave", 2), "came", "b", None), look], 1), ([self.LEFT, look, row("a", ("look", 0), "came", "b", True)], 2),
        ):
            self.check(book, ("unleft", number))
            self.check_now(True, book, (), ("unleft", number))
            self.check_now(False, book, (), ("apart", number))

    def test_a_mark_behind_the_look_does_not_count_but_one_ahead_does(self):
        look = row("a", ("look", 1), "came", "b", True)
        book = [look, self.LEFT, look]
        self.check(book, ("unleft", 0))
        self.check_now(False, book, (), ("unleft", 2))

    def test_order(self):
        book = [
            self.LEFT, row("a", ("look", 2), "came", "b", True), row("a", ("look", 3), "came", "b", True),
            row("a", ("look", 1), "came", "b", False), row("a", ("look", 1), "came", "b", False),
        ]
        self.check(book, ("apart", 3))
        self.check(book[:3], ("unleft", 1))
        self.check_now(True, book, fold_paper(book)[0], ("apart", 4))
        self.check_now(True, book, fold_paper(book)[0], ("unleft", 2))
        book.append(walk("a", "c"))
        self.check(book, ("words", (0, 1, 0), (5, 1, 0)))
        self.check(book[:5], ("loop", (0, 1)), [((0, 0), (0, 1))])


class KeepsTest(ClashCase):
    def test_two_values_in_one_lot(self):
        for one, two in ((None, "met"), ("met", None)):
            book = [meet("a", "b", 1, one), meet("a", "b", 2, two)]
            self.check(book, ("keeps", 0, 1))
            step = ("tie", (0, 1, 0), (1, 1, 0))
            self.check_now(True, book, (step,), ("keeps", 0, 1))
            self.check_now(False, book, (), ("keeps", 0, 1))
            self.check_now(False, book, (step,), ("keeps", 1, 0))
            self.check_now(False, book, (step,), ("keeps", 0, 0))
            self.check_now(False, book, (step,), ("keeps", 0, None))

    def test_self_and_another_value(self):
        for one, two in ((None, "self"), ("self", None), ("met", "self"), ("self", "met")):
            book = [meet("a b", "c d", 1, one), meet("a b", "c d", 2, two)]
            other = 1 if one == "self" else 0
            self.check(book, ("keeps", 0, None if other == 0 else 1))
            steps = fold_paper(book)[0]
            self.check_now(True, book, steps, ("keeps", 0, 1))
            self.check_now(True, book, steps, ("keeps", other, None))
            self.check_now(False, book, steps, ("keeps", 1 - other, None))
            # Without the self step only the two letters are at odds.
            steps = (("tie", (0, 1, 0), (1, 1, 0)), ("tie", (0, 2, 0), (1, 2, 0)))
            self.check_now(True, book, steps, ("keeps", 0, 1))
            self.check_now(False, book, steps, ("keeps", other, None))

    def test_the_owner_alone(self):
        for thing in (None, "met"):
            self.check([meet("", "", 1, thing)], ("keeps", 0, None))
            book = [meet("a b", "b a", 1, thing)]
            self.check(book, ("keeps", 0, None))
            self.check_now(False, book, (), ("keeps", 0, None))
            self.check([meet("a", "b", 1, thing)], None)
        self.check([meet("", "", 1, "self")], None)
        self.check([meet("a b", "b a", 1, "self")], None)

    def test_letters_that_are_no_clash(self):
        for book in (
            [meet("a", "b", 1, None), meet("a", "b", 2, None)],
            [meet("a", "b", 1, "met"), meet("a", "b", 2, "met")],
            [meet("a", "b", 1, "met"), meet("c", "b", 2, None)],
            [meet("a", "b", 1, "met"), row("a c", ("meet", 2), "lost", "b")],
            [meet("a", "b", 1, "met"), ("met", "a", 2)],
            [meet("a", "b", 1, "met"), walk("a", "b")],
        ):
            self.check(book, None)
            steps = fold_paper(book)[0]
            for thing in (("keeps", 0, 1), ("keeps", 0, None), ("keeps", 1, None), ("keeps", 0, 2)):
                self.check_now(False, book, steps, thing)

    def test_order(self):
        book = [meet("a", "b", 1, None), meet("c", "d", 2, "met"), meet("a", "b", 3, "met"), meet("c", "d", 4, None)]
        self.check(book, ("keeps", 0, 2))
        self.check(book[1:], ("keeps", 0, 2))
        self.check(book + [meet("", "", 5, None)], ("keeps", 0, 2))
        self.check([meet("", "", 5, None), meet("", "", 6, "met")], ("keeps", 0, None))
        self.check(book + [row("", ("look", 1), "came", "", True)], ("unleft", 4))
        lifeless = [row("p", WALK, "lost", ""), row("q", LIST, "came", "1", ())]
        self.check(lifeless + book, ("keeps", 2, 4))
        self.check(lifeless, ("life", (0, 0), "q"))


class WrongThingsTest(ClashCase):
    BOOK = [
        row("a", ("leave", 1), "came", "b", None), row("a", ("look", 1), "came", "c", False),
        row("", ("look", 2), "came", "", True), meet("", "", 1, None), meet("", "", 2, "met"),
        row("a d", WALK, "lost", "b"), row("a", LIST, "came", "b", ()),
    ]
    STEPS = (("tie", (0, 1, 0), (1, 1, 0)), ("tie", (0, 1, 0), (5, 1, 0)), ("tie", (0, 1, 0), (6, 1, 0)))
    RIGHT = (
        ("words", (0, 1, 0), (1, 1, 0)), ("loop", (0, 1)), ("apart", 1), ("unleft", 2), ("keeps", 3, None),
        ("keeps", 3, 4), ("life", (0, 1), "b"),
    )

    def test_the_right_ones(self):
        for thing in self.RIGHT:
            put = [((0, 0), (0, 1))]
            self.check_now(True, self.BOOK, self.STEPS + (("put", 0),), thing, put)
            self.check_now(thing[0] != "loop", self.BOOK, self.STEPS, thing)

    def test_other_forms(self):
        for thing in self.RIGHT:
            for wrong in (list(thing), thing[:-1], thing + (None,), (thing,), ("",) + thing[1:], (thing[0].upper(),) + thing[1:]):
                self.check_now(False, self.BOOK, self.STEPS, wrong)
        for thing in (
            ("words", [0, 1, 0], (1, 1, 0)), ("words", (0, 1, 0), [1, 1, 0]), ("words", (0, 1), (1, 1)), ("loop", [0, 1]),
            ("loop", (0, 1, 0)), ("loop", (0,)), ("loop", 0), ("loop", "01"), ("loop", (0, 0)), ("loop", (0, 2)),
            ("loop", (9, 1)), ("loop", (-1, 1)), ("apart", (1,)), ("apart", "1"), ("apart", [1]), ("apart", -6),
            ("unleft", "2"), ("unleft", (2,)), ("unleft", -5), ("keeps", 3, "4"), ("keeps", "3", None), ("keeps", 3, False),
            ("keeps", (3,), (4,)), ("keeps", None, None), ("keeps", 3, -3), ("keeps", 3, 99), ("keeps", -4, None),
            ("life", (0, 1), "x"), ("life", (0, 2), "b"), ("life", [0, 1], "b"), ("life", (0, 1, 0), "b"), ("life", 0, "b"),
            ("life", (0, 1), "B"), ("life", (0, 1), ""), ("life", (0, 1), ("b",)), ("life", "01", "b"), ("life", (0,), "b"),
            ("life", (9, 9), "b"), ("life", (-7, 1), "b"), ("life", (0, 1), None), ("life", "b", (0, 1)),
        ):
            self.check_now(False, self.BOOK, self.STEPS, thing)

    def test_truths_are_no_numbers(self):
        put = [((0, 0), (0, 1))]
        steps = self.STEPS + (("put", 0),)
        for thing in (
            ("words", (False, 1, 0), (1, 1, 0)), ("words", (0, True, 0), (1, 1, 0)), ("words", (0, 1, False), (1, 1, 0)),
            ("words", (0, 1, 0), (True, 1, 0)), ("words", (0, 1, 0), (1, 1, False)), ("loop", (False, 1)),
            ("loop", (0, True)), ("apart", True), ("life", (False, 1), "b"), ("life", (0, True), "b"),
        ):
            self.check_now(False, self.BOOK, steps, thing, put)
        book = [meet("", "", 1, None), meet("", "", 2, "met"), row("", ("look", 1), "came", "", True)]
        self.check_now(True, book, (), ("keeps", 0, 1))
        self.check_now(False, book, (), ("keeps", False, 1))
        self.check_now(False, book, (), ("keeps", 0, True))
        self.check_now(False, book, (), ("keeps", True, None))
        self.check_now(True, book[2:], (), ("unleft", 0))
        self.check_now(False, book[2:], (), ("unleft", False))

    def test_steps_that_are_none(self):
        for thing in self.RIGHT[:1] + self.RIGHT[2:6]:
            for steps in (
                None, [], list(self.STEPS), self.STEPS + (None,), (("look", 1),), (("put", 0),), "", (("self", True),), {},
                self.STEPS + (("tie", (0, 1, 0), (0, 1, 0)),),
            ):
                self.check_now(False, self.BOOK, steps, thing)

    def test_values_of_all_kinds(self):
        for value in strange_values():
            if value != ():
                self.check_now(False, self.BOOK, value, ("unleft", 2))
            self.check_now(False, self.BOOK, (value,), ("unleft", 2))
            for thing in (
                value, (value, 2), (value, 3, None), ("words", value, (1, 1, 0)), ("words", (0, 1, 0), value), ("words", value, value),
                ("loop", value), ("loop", (0, value)), ("apart", value), ("unleft", value), ("keeps", value, None),
                ("keeps", value, 4), ("keeps", value, value), ("life", value, "b"), ("life", (0, 1), value),
                ("life", (0, value), "b"), ("life", value, value), ("words", (0, 1, value), (1, 1, value)),
            ):
                self.check_now(False, self.BOOK, self.STEPS, thing)
            if value is not None:
                self.check_now(False, self.BOOK, self.STEPS, ("keeps", 3, value))


class ErrorsTest(unittest.TestCase):
    CALLS = (
        lambda book, put: clash_of(book, put=put),
        lambda book, put: fold_paper(book, put=put),
        lambda book, put: is_clash(book, (), ("loop", (0, 1)), put=put),
        lambda book, put: is_clash(book, None, None, put=put),
    )

    def test_no_book_comes_first(self):
        for call in self.CALLS:
            for book, number in ((None, None), ((), None), ([None], 0), ([walk("a", "b"), ("calm", 1)], 1)):
                for put in ((), [((9, 9), None)]):
                    with self.assertRaises(NoBook) as caught:
                        call(book, put)
                    self.assertEqual((caught.exception.name, caught.exception.row), (None, number))
            for value in strange_values():
                with self.assertRaises(NoBook):
                    call([value], ())

    def test_places_are_checked_pair_by_pair(self):
        for call in self.CALLS:
            for place in strange_values() + [(0, 2), (1, 0), (0, True), (False, 0), (0, -1), (deep_tuple(), 0), (0, deep_list())]:
                if place == (0, 0):
                    continue
                for pairs in ([(place, None)], [((0, 1), place)], (((0, 0), (0, 1)), (place, (5, 5)))):
                    with self.assertRaises(NoPlace) as caught:
                        call([walk("a", "b")], pairs)
                    self.assertIs(caught.exception.place, place)

    def test_put_goes_by_keyword_alone(self):
        for call in (clash_of, fold_paper):
            with self.assertRaises(TypeError):
                call([], ())
        with self.assertRaises(TypeError):
            is_clash([], (), None, ())


if __name__ == "__main__":
    unittest.main()
