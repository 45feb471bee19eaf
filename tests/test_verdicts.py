"""Promises 4 and 13 to 15: who is who, several pairs at once, and words at rows."""

import unittest

from ownwords.clashes import fold_paper, is_clash
from ownwords.errors import NoBook, NoPlace, NoRow, NoWorld
from ownwords.foldings import are_steps, lots_behind
from ownwords.histories import person_at, played
from ownwords.verdicts import could_be, who, word_at

from tests import naive
from tests.checks import check_history, in_use
from tests.helper import PART, TIE, WALK, born, deep_list, deep_tuple, gone, letter, listed, lost, row, strange_values, walk

LEFT = row("a", ("leave", 1), "came", "p", None)
FOUND = row("b", ("look", 1), "came", "q", True)
MISSED = row("b", ("look", 1), "came", "q", False)


class VerdictCase(unittest.TestCase):
    def check_who(self, wanted, book, one, other):
        """The answer is of this kind, and shows what it says."""
        answer = who(book, one, other)
        self.assertEqual(answer[0], wanted, (book, one, other))
        if wanted == "one":
            self.check_one(book, one, other, answer)
        elif wanted == "two":
            self.check_two(book, one, other, answer)
        else:
            self.check_open(book, one, other, answer)

    def check_one(self, book, one, other, answer):
        self.assertEqual(len(answer), 2)
        self.assertIs(are_steps(book, answer[1]), True)
        self.assertNotIn("put", [step[0] for step in answer[1]])
        self.assertTrue(any(one in lot and other in lot for lot in lots_behind(book, answer[1])))

    def check_two(self, book, one, other, answer):
        put = [(one, other)]
        self.assertEqual(len(answer), 3)
        self.assertIs(are_steps(book, answer[1], put=put), True)
        self.assertIs(is_clash(book, answer[1], answer[2], put=put), True)
        self.assertIn(answer[2], naive.clashes(book, naive.after(book, put, answer[1])))

    def check_open(self, book, one, other, answer):
        self.assertEqual(len(answer), 3)
        check_history(self, book, answer[1], [(one, other)])
        check_history(self, book, answer[2])
        self.assertEqual(person_at(answer[1], "me", one), person_at(answer[1], "me", other))
        self.assertNotEqual(person_at(answer[2], "me", one), person_at(answer[2], "me", other))

    def check_word(self, wanted, book, place, word):
        """The first letters of the answers at all rows, each of which shows what it says."""
        found = ""
        for number in range(len(book)):
            answer = word_at(book, place, word, number)
            found += answer[0][0]
            self.assertEqual(answer[0], naive.word_answer(book, place, word, number))
            if answer[0] != "open":
                self.assertIn(answer, (("yes",), ("no",)))
                continue
            self.assertEqual(len(answer), 3)
            check_history(self, book, answer[1], asked=1)
            check_history(self, book, answer[2], asked=1)
            self.assertIs(in_use(answer[1], place, word, number), True)
            self.assertIs(in_use(answer[2], place, word, number), False)
        self.assertEqual(found, wanted)


class WhoTest(VerdictCase):
    def test_one(self):
        self.check_who("one", [walk("a", "b"), walk("a", "b")], (0, 1), (1, 1))
        self.check_who("one", [walk("a", "b"), walk("a", "b")], (0, 0), (1, 0))
        self.check_who("one", [walk("a b", "b a")], (0, 2), (0, 0))
        self.check_who("one", [LEFT, FOUND], (1, 1), (0, 1))
        self.check_who("one", [LEFT, FOUND, walk("a c", "p d"), walk("b c", "q d")], (2, 2), (3, 2))
        self.check_who("one", [row("a b", TIE, "came", "c d", "self")], (0, 0), (0, 2))
        self.check_who("one", [row("a b", ("meet", 0), "came", "c d", "self")], (0, 2), (0, 0))
        self.check_who("one", [row("a", TIE, "came", "b", ("u", "v")), walk("u", "v")], (0, 1), (1, 1))

    def test_the_same_place_twice(self):
        for book in ([walk("a b", "c d")], [("met", "a", 1)], [lost("a b", "c")]):
            for place in naive.places(book):
                self.check_who("one", book, place, place)

    def test_two_by_a_loop(self):
        self.check_who("two", [walk("a", "b")], (0, 0), (0, 1))
        self.check_who("two", [walk("a b", "c d")], (0, 1), (0, 2))
        self.check_who("two", [row("a", TIE, "came", "b", ("u", "v"))], (0, 1), (0, 0))

    def test_two_by_words(self):
        self.check_who("two", [walk("a c", "p 1"), walk("b c", "q 2")], (0, 1), (1, 1))
        self.check_who("two", [walk("a", "p"), walk("b", "p")], (0, 1), (1, 1))
        self.check_who("open", [walk("a", "p"), walk("b", "q")], (0, 1), (1, 1))

    def test_two_by_a_look(self):
        self.check_who("two", [LEFT, MISSED], (0, 1), (1, 1))
        self.check_who("open", [MISSED, LEFT], (0, 1), (1, 1))

    def test_two_by_meet_letters(self):
        def meet(word, back, sign, thing):
            return row(word, ("meet", sign), "came", back, thing)
        self.check_who("two", [meet("a", "b", 1, None), meet("c", "d", 2, "met")], (0, 1), (1, 1))
        self.check_who("open", [meet("a", "b", 1, None), meet("c", "d", 2, None)], (0, 1), (1, 1))
        self.check_who("open", [meet("a", "b", 1, "met"), meet("c", "d", 2, "met")], (0, 1), (1, 1))
        self.check_who("two", [row("a b", ("meet", 1), "came", "c d", None)], (0, 0), (0, 2))
        self.check_who("open", [row("a b", ("walk",), "came", "c d", None)], (0, 0), (0, 2))

    def test_two_by_a_life(self):
        first, second = listed("p x", "a", "p"), listed("q y", "b", "q")
        self.check_who("two", [first, second, first], (0, 1), (1, 1))
        self.check_who("open", [first, second], (0, 1), (1, 1))
        self.check_who("open", [first, listed("p q x", "b", "q"), first], (0, 1), (1, 1))
        self.check_who("two", [walk("a c", "p 1"), lost("b c", "q"), walk("a c", "p 1")], (0, 1), (1, 1))
        self.check_who("open", [walk("a c", "p 1"), lost("b c", "q")], (0, 1), (1, 1))

    def test_two_at_the_second_glance(self):
        # If the first places were one, the last ones would be, and they cannot.
        book = [walk("a x y", "p 1 2"), walk("b x y", "q 1 3")]
        self.check_who("two", book, (0, 1), (1, 1))
        self.check_who("two", book, (0, 2), (1, 2))
        self.check_who("open", book, (0, 3), (1, 3))

    def test_open(self):
        book = [walk("a c", "p 1"), walk("b d", "q 2"), ("met", "e", 1), listed("g h", "f", "h"), lost("a k", "p")]
        for one, other in (((0, 1), (1, 1)), ((0, 2), (1, 2)), ((0, 2), (1, 1)), ((1, 2), (4, 1)), ((0, 0), (0, 2))):
            self.check_who("open", book, one, other)
            self.check_who("open", book, other, one)

    def test_a_history_behind_the_answers(self):
        history = (5, (("me", 0), ("you", 3)), (
            born(0, "a", 1, "p"), born(0, "b", 2, "q"), born(1, "x", 3, "1"), born(2, "y", 3, "2"), born(3, "z", 4, "w"),
            letter("me", "a x", "leave", 1), letter("me", "b y", "look", 1), letter("me", "a", "look", 1), letter("me", "a x z", *WALK),
            letter("me", "b y z", *WALK), letter("you", "1 p", "meet", 3), gone(3, "z"), letter("me", "b y", "list"),
        ))
        book = played(history)["me"]
        self.check_who("one", book, (0, 2), (1, 2))
        self.check_who("one", book, (3, 3), (4, 3))
        self.check_who("two", book, (2, 1), (0, 2))
        self.check_who("two", book, (0, 1), (0, 0))
        self.check_who("two", book, (3, 2), (0, 1))
        self.check_who("open", book, (3, 1), (4, 1))
        self.check_who("open", book, (4, 3), (0, 0))

    def test_twelve_rows(self):
        book = [walk("a b c d e f g h", "1 2 3 4 5 6 7 8") for _ in range(11)] + [walk("x", "y")]
        self.check_who("one", book, (0, 8), (10, 8))
        self.check_who("two", book, (0, 8), (10, 7))
        self.check_who("open", book, (0, 8), (11, 1))


class CouldBeTest(VerdictCase):
    def check(self, wanted, book, *pairs):
        for put in (list(pairs), list(pairs)[::-1]):
            answer = could_be(book, put)
            self.assertEqual(answer[0], wanted)
            if wanted == "history":
                self.assertEqual(len(answer), 2)
                check_history(self, book, answer[1], put)
                for one, other in put:
                    self.assertEqual(person_at(answer[1], "me", one), person_at(answer[1], "me", other))
            else:
                self.assertEqual(len(answer), 3)
                self.assertIs(is_clash(book, answer[1], answer[2], put=put), True)
                self.assertIn(answer[2], naive.clashes(book, naive.after(book, put, answer[1])))

    BOOK = [walk("a", "p"), walk("b", "q"), walk("c", "r"), walk("b e", "q 1"), walk("c e", "r 2")]

    def test_no_pairs(self):
        self.check("history", self.BOOK)
        self.check("history", [])

    def test_several_pairs(self):
        self.check("history", self.BOOK, ((0, 1), (1, 1)))
        self.check("history", self.BOOK, ((0, 1), (2, 1)))
        self.check("never", self.BOOK, ((0, 1), (1, 1)), ((0, 1), (2, 1)))
        self.check("never", self.BOOK, ((1, 1), (2, 1)))
        self.check("history", self.BOOK, ((0, 1), (4, 2)), ((2, 1), (3, 2)))
        self.check("never", self.BOOK, ((0, 0), (0, 1)), ((0, 0), (0, 0)))
        self.check("history", self.BOOK, ((0, 0), (1, 0)), ((0, 1), (0, 1)), ((0, 1), (0, 1)))

    def test_each_alone_but_not_both(self):
        book = [walk("a", "p"), walk("b", "q"), row("c", ("leave", 1), "came", "r", None), row("b", ("look", 1), "came", "q", False)]
        self.check("history", book, ((0, 1), (1, 1)))
        self.check("history", book, ((0, 1), (2, 1)))
        self.check("never", book, ((0, 1), (1, 1)), ((0, 1), (2, 1)))
        self.check("never", book, ((0, 1), (2, 1)), ((0, 1), (0, 1)), ((3, 1), (0, 1)))

    def test_it_agrees_with_who(self):
        for one in naive.places(self.BOOK):
            for other in naive.places(self.BOOK):
                never = could_be(self.BOOK, [(one, other)])[0] == "never"
                self.assertEqual(never, who(self.BOOK, one, other)[0] == "two")


class WordAtTest(VerdictCase):
    def test_lists_and_losses(self):
        book = [walk("", ""), listed("a"), walk("", ""), listed("a"), walk("", ""), lost("a"), walk("", "")]
        self.check_word("oyyyonn", book, (0, 0), "a")
        self.check_word("oyyyonn", book, (6, 0), "a")

    def test_between_lacking_rows_all_is_open(self):
        book = [lost("a"), walk("", ""), lost("a"), walk("", "")]
        self.check_word("nono", book, (0, 0), "a")
        # But not where the tie lived further on.
        self.check_word("nnnyo", book[:3] + [walk("a", "b"), walk("", "")], (0, 0), "a")
        self.check_word("oynnn", [walk("", ""), walk("a", "b")] + book[:3], (0, 0), "a")
        self.check_word("oynnn", [walk("", ""), walk("a", "b")] + book[:3], (1, 1), "b")

    def test_ties_that_were_made(self):
        tie = row("x", TIE, "came", "y", ("u", "v"))
        book = [walk("", ""), tie, walk("", ""), walk("u", "v"), walk("", ""), listed("x"), walk("", "")]
        for place, word in (((0, 0), "u"), ((3, 1), "v"), ((1, 1), "v")):
            self.check_word("nnyyonn", book, place, word)
        self.check_word("nnoo", [walk("", ""), tie, walk("", ""), walk("", "")], (0, 0), "u")
        self.check_word("nonn", [tie, walk("", ""), lost("u"), walk("", "")], (0, 0), "u")

    def test_ties_that_were_ended(self):
        book = [walk("", ""), walk("u", "v"), walk("", ""), row("u", PART, "came", "v", None), walk("", ""), walk("", "")]
        for place, word in (((5, 0), "u"), ((1, 1), "v"), ((3, 1), "v")):
            self.check_word("oyyynn", book, place, word)
        self.check_word("noyn", [lost("u"), walk("", ""), row("u", PART, "came", "v", None), walk("", "")], (0, 0), "u")
        tie = row("x", TIE, "came", "y", ("u", "v"))
        self.check_word("nyyn", [tie, walk("", ""), row("u", PART, "came", "v", None), walk("", "")], (0, 0), "u")

    def test_met_rows(self):
        book = [walk("", ""), ("met", "a", 1), walk("", ""), ("met", "a", 2), lost("a"), ("met", "b", 3)]
        self.check_word("oyyynn", book, (0, 0), "a")
        self.check_word("oooooy", book, (0, 0), "b")
        self.check_word("oooooo", book, (0, 0), "c")

    def test_words_that_the_book_does_not_mention_there(self):
        book = [listed("x"), walk("a", "b"), listed("b c", "a", "b"), walk("a b", "b a"), listed("a x")]
        self.check_word("nooon", book, (0, 0), "z")
        self.check_word("nooon", book, (3, 2), "b")
        self.check_word("oonoo", book, (1, 1), "a")
        self.check_word("oonoo", book, (2, 1), "x")
        self.check_word("ooo", [walk("a", "b"), walk("c", "d"), walk("a", "b")], (1, 1), "b")

    def test_words_that_come_first_when_one_looks_for_new_ones(self):
        # Someone comes along a tie that nobody knows of, just for the met row: it must not have the asked word.
        book = [walk("z", "y"), ("met", "z", 1), ("met", "z", 2), ("met", "x", 3)]
        for word in "abcdef":
            for place in ((0, 0), (0, 1)):
                self.check_word("oooo", book, place, word)

    def test_the_other_end_counts(self):
        book = [LEFT, FOUND, lost("b p", "q"), walk("a", "p"), listed("p q", "b", "q")]
        with self.assertRaises(NoWorld):
            word_at(book, (0, 0), "a", 0)
        book = [walk("a", "p"), lost("c"), LEFT, FOUND, walk("", ""), lost("b p", "q")]
        self.check_word("yyyoon", book, (0, 0), "a")
        self.check_word("yyyoon", book, (3, 1), "p")

    def test_twelve_rows(self):
        book = [listed(" ".join(sorted("w" + str(number) for number in range(40))), "w1", "v") for _ in range(12)]
        book[11] = listed("w0 w1", "w1", "v")
        with self.assertRaises(NoWorld):
            word_at(book, (0, 0), "w1", 0)
        words = " ".join(sorted(["v"] + ["w" + str(number) for number in range(39)]))
        book = [listed(words, "w1", "v") for _ in range(6)] + [walk("w1", "v") for _ in range(6)]
        self.check_word("y" * 12, book, (0, 1), "v")
        self.check_word("y" * 6 + "o" * 6, book, (0, 1), "w7")
        self.check_word("n" * 6 + "o" * 6, book, (0, 1), "z")


class ErrorsTest(unittest.TestCase):
    BOOK = [walk("a", "b"), lost("c d", "e")]
    CALLS = (
        lambda book, place: who(book, place, None),
        lambda book, place: who(book, (0, 0), place),
        lambda book, place: could_be(book, [(place, None), (None, None)]),
        lambda book, place: could_be(book, [((0, 0), (1, 1)), ((1, 0), place)]),
        lambda book, place: could_be(book, ((place, (0, 0)),)),
        lambda book, place: word_at(book, place, "a", None),
    )
    BAD = [walk("a", "b"), walk("a", "c")]

    def test_no_book_comes_first(self):
        for call in self.CALLS:
            for place in ((0, 0), None):
                for book, number in ((None, None), ((), None), ({}, None), ([None], 0), (self.BAD + [("met", 1, 1)], 2)):
                    with self.assertRaises(NoBook) as caught:
                        call(book, place)
                    self.assertEqual((caught.exception.name, caught.exception.row), (None, number))
        for value in strange_values():
            for call in self.CALLS:
                with self.assertRaises(NoBook) as caught:
                    call([walk("", ""), value], (0, 0))
                self.assertEqual(caught.exception.row, 1)

    def test_places_come_next(self):
        wrong = [
            (0, 2), (1, 2), (9, 0), (-1, 0), (0, -1), (True, 0), (0, True), (False, 0), (0, 0, 0), (0,), [0, 0], "00",
            (deep_tuple(), 0), (0, deep_list()), 0,
        ]
        for call in self.CALLS:
            for place in strange_values() + wrong:
                if place != (0, 0) or isinstance(place[0], bool):
                    # Even if no history has the book.
                    for book in (self.BOOK, self.BOOK + self.BAD):
                        with self.assertRaises(NoPlace) as caught:
                            call(book, place)
                        self.assertIs(caught.exception.place, place)

    def test_the_first_place_comes_first(self):
        with self.assertRaises(NoPlace) as caught:
            who(self.BOOK, (9, 1), (9, 2))
        self.assertEqual(caught.exception.place, (9, 1))
        with self.assertRaises(NoPlace) as caught:
            could_be(self.BOOK, [((0, 0), (9, 3)), ((9, 4), (0, 0))])
        self.assertEqual(caught.exception.place, (9, 3))

    def test_no_world_comes_behind_them(self):
        for book in (self.BAD, [row("", ("meet", 1), "came", "", None)], [row("", ("look", 1), "came", "", True)]):
            for call in (
                lambda: who(book, (0, 0), (0, 0)), lambda: who(book, (0, 0), naive.places(book)[-1]), lambda: could_be(book, []),
                lambda: could_be(book, [((0, 0), (0, 0))]), lambda: word_at(book, (0, 0), "a", 0),
                lambda: word_at(book, (0, 0), "a", None), lambda: word_at(book, (0, 0), "z", 99),
            ):
                with self.assertRaises(NoWorld) as caught:
                    call()
                steps, clash = caught.exception.paper
                self.assertIsInstance(caught.exception.paper, tuple)
                self.assertIs(is_clash(book, steps, clash), True)
                self.assertEqual(caught.exception.paper, fold_paper(book))

    def test_rows_come_last(self):
        wrong = [2, -1, 10 ** 4299, True, False, "0", (0,), [0], None]
        for value in wrong + strange_values():
            with self.assertRaises(NoRow) as caught:
                word_at(self.BOOK, (0, 0), "a", value)
            self.assertIs(caught.exception.row, value)
        self.assertEqual(word_at(self.BOOK, (0, 0), "a", 1)[0], "open")

    def test_the_empty_book_has_no_places_and_no_rows(self):
        for call in self.CALLS[:1] + self.CALLS[1:3] + self.CALLS[4:]:
            with self.assertRaises(NoPlace) as caught:
                call([], (0, 0))
            self.assertEqual(caught.exception.place, (0, 0))


if __name__ == "__main__":
    unittest.main()
