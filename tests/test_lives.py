"""Promise 11: which ties lots and words name, their marks, and whether they have a life; calm rows as well."""

import unittest

from ownwords.clashes import clash_of, fold_paper, is_clash
from ownwords.foldings import folded
from ownwords.lives import Lives

from tests.helper import PART, TIE, listed, lost, row, walk


def made(word, back):
    """The row of a tie that the owner made with whoever the tie x leads to."""
    return row("x", TIE, "came", "y", (word, back))


def part(way, backs):
    """The row of a part letter that came."""
    return row(way, PART, "came", backs, None)


# A row that says nothing.
FILL = walk("", "")


class LifeCase(unittest.TestCase):
    def alive(self, *book):
        """The book has no clash at all."""
        self.assertIsNone(clash_of(list(book)))

    def lifeless(self, *book, at=(0, 0), word="a"):
        """The first clash of the book is this tie without a life."""
        self.assertEqual(clash_of(list(book)), ("life", at, word))
        steps, clash = fold_paper(list(book))
        self.assertEqual(clash, ("life", at, word))
        self.assertIs(is_clash(list(book), steps, clash), True)


class LivingAndLackingTest(LifeCase):
    LIVING = (walk("a", "b"), listed("a"), ("met", "a", 1))
    LACKING = (lost("a"), listed(""))

    def test_lacking_between_two_living_marks(self):
        for one in self.LIVING:
            for two in (walk("a", "b"), listed("a"), ("met", "a", 2)):
                for no in self.LACKING:
                    self.lifeless(one, no, two)
                    self.lifeless(one, FILL, no, FILL, FILL, two)
                    self.lifeless(FILL, one, no, no, two)
                    self.alive(no, one, two, no)
                    self.alive(one, two, no)
                    self.alive(no, no, one, FILL, two)

    def test_one_mark_of_each_kind(self):
        for yes in self.LIVING:
            for no in self.LACKING:
                self.alive(yes, no)
                self.alive(no, yes)
                self.alive(no, yes, no)
                self.alive(yes)
                self.alive(no)

    def test_both_marks_at_one_row(self):
        # The letter came along the tie, so that its word belongs in the list.
        self.alive(listed("b", "a", "b"))
        self.alive(listed("b c", "a", "b"))
        self.lifeless(listed("", "a", "b"))
        self.lifeless(listed("c d", "a", "b"))
        self.alive(listed("a c", "a b", "b a"))
        self.lifeless(listed("c", "a b", "b a"))
        self.lifeless(lost("a b a", "b a"))
        self.lifeless(lost("b a b", "a b"), at=(0, 0), word="b")

    def test_the_other_end_counts(self):
        leave = row("a", ("leave", 1), "came", "b", None)
        look = row("c", ("look", 1), "came", "d", True)
        self.lifeless(leave, look, lost("c b", "d"), walk("a", "b"))
        self.lifeless(leave, look, listed("d e", "c", "d"), walk("a", "b"))
        self.alive(leave, look, listed("b d", "c", "d"), walk("a", "b"))
        # In another lot the same word is another tie's.
        other = row("c", ("look", 1), "came", "d", False)
        self.alive(leave, other, lost("c b", "d"), walk("a", "b"))
        self.alive(leave, other, listed("d e", "c", "d"), walk("a", "b"))

    def test_a_list_marks_only_the_ties_of_its_lot(self):
        self.alive(walk("a", "b"), listed("d", "c", "d"), walk("a", "b"))
        self.lifeless(walk("a", "b"), listed("c", "c d", "d c"), walk("a", "b"))

    def test_a_lost_letter_marks_only_the_word_it_missed(self):
        self.alive(walk("a", "b"), lost("a c a", "b"), walk("a", "b"))
        self.alive(walk("a", "b"), lost("c a"), walk("a", "b"))
        self.lifeless(walk("a c", "b d"), lost("a c", "b"), walk("a c", "b d"), at=(0, 1), word="c")

    def test_words_that_only_lists_met_rows_and_lost_letters_mention(self):
        self.lifeless(listed("a b"), lost("b"), listed("a b"), word="b")
        self.lifeless(("met", "a", 1), lost("a"), ("met", "a", 2))
        self.lifeless(("met", "a", 1), listed(""), listed("a"))
        self.alive(lost("a"), lost("b"), lost("a"))
        self.alive(lost("a"), listed(""), listed("b"), lost("a"))

    def test_the_least_name_comes_first(self):
        book = (walk("e d", "1 2"), listed("", "e d", "1 2"), lost("c"), walk("c", "3"), lost("c"), walk("c", "3"))
        self.lifeless(*book, at=(0, 0), word="c")
        self.lifeless(*book[:2], at=(0, 1), word="d")
        self.lifeless(*book[:2], listed("", "e", "1"), at=(0, 0), word="e")
        # A tie has the least of its names, which may be its second end's.
        leave, look = row("m n", ("leave", 1), "came", "1 2", None), row("k", ("look", 1), "came", "3", True)
        self.lifeless(leave, look, listed("2 c", "k", "3"), at=(0, 0), word="k")


class BornAndDeadTest(LifeCase):
    def test_made_once_and_used_later(self):
        self.alive(made("a", "b"), walk("a", "b"))
        self.alive(made("a", "b"), FILL, listed("a x"), walk("a", "b"), lost("a"))
        self.alive(lost("a"), made("a", "b"), lost("a"))
        self.alive(lost("a"), made("a", "b"), walk("a", "b"), lost("a"))
        self.alive(listed("x"), made("a", "b"), listed("x"))
        self.alive(made("a", "b"))

    def test_used_before_it_was_made(self):
        self.lifeless(walk("a", "b"), made("a", "b"))
        self.lifeless(listed("a"), made("a", "b"))
        self.lifeless(("met", "a", 1), FILL, made("a", "b"))
        self.lifeless(walk("x b", "y a"), made("a", "b"))

    def test_used_at_the_row_that_made_it(self):
        self.lifeless(row("a", TIE, "came", "b", ("a", "b")))
        self.lifeless(row("x y a", TIE, "came", "y x b", ("a", "b")), at=(0, 0), word="a")

    def test_lacking_between_its_making_and_a_use(self):
        self.lifeless(made("a", "b"), lost("a"), walk("a", "b"))
        self.lifeless(made("a", "b"), listed("x"), ("met", "a", 1))
        self.lifeless(made("a", "b"), FILL, lost("x b", "y"), FILL, listed("a x"))
        self.alive(made("a", "b"), lost("a"), lost("x b", "y"))

    def test_made_twice(self):
        self.lifeless(made("a", "b"), made("a", "b"))
        self.lifeless(made("a", "b"), part("a", "b"), made("a", "b"))
        self.lifeless(made("a", "b"), lost("a"), FILL, made("a", "b"))

    def test_ended_once_and_lacking_later(self):
        self.alive(part("a", "b"))
        self.alive(walk("a", "b"), part("a", "b"), lost("a"), listed(""))
        self.alive(lost("a"), walk("a", "b"), part("a", "b"))
        self.alive(made("a", "b"), part("a", "b"), lost("a"))
        self.alive(made("a", "b"), walk("a", "b"), part("x b", "y a"))
        self.alive(made("a", "b"), part("x", "y"), lost("x"), walk("a", "b"))

    def test_used_after_it_ended(self):
        self.lifeless(part("a", "b"), walk("a", "b"))
        self.lifeless(part("a", "b"), FILL, listed("a"))
        self.lifeless(part("a", "b"), ("met", "a", 1))
        self.lifeless(part("a", "b"), part("a", "b"))
        self.lifeless(part("a b a", "b a b"), walk("a", "b"))
        # Made after it had ended.
        self.lifeless(part("a", "b"), made("a", "b"))

    def test_lacking_before_it_ended(self):
        self.lifeless(walk("a", "b"), lost("a"), part("a", "b"))
        self.lifeless(made("a", "b"), lost("a"), part("a", "b"))
        self.alive(lost("a"), part("a", "b"))

    def test_a_lost_part_letter_ends_nothing(self):
        self.alive(row("a c", PART, "lost", "b"), walk("a", "b"))
        self.alive(row("a c", PART, "lost", "b"), row("a c", PART, "lost", "b"))

    def test_only_the_last_tie_ends(self):
        self.alive(part("a c", "b d"), walk("a", "b"), lost("a c", "b"))
        self.lifeless(part("a c", "b d"), walk("a c", "b d"), at=(0, 1), word="c")

    def test_a_tie_letter_that_made_nothing(self):
        self.alive(row("a", TIE, "lost", ""), row("a", TIE, "lost", ""), walk("a", "b"))
        self.alive(row("c d", TIE, "came", "d c", "self"), row("c d", TIE, "came", "d c", "self"))


class PartlyMergedTest(unittest.TestCase):
    """The ties that lots name behind some of the steps only."""

    BOOK = [walk("a c", "b d"), lost("a c", "b"), walk("a c", "b d")]
    FIRST = (("tie", (0, 1, 0), (1, 1, 0)), ("tie", (0, 1, 0), (2, 1, 0)))

    def check(self, wanted, book, steps, place, word, put=()):
        self.assertIs(is_clash(book, steps, ("life", place, word), put=put), wanted, (steps, place, word))

    def test_the_lots_are_merged_just_as_far(self):
        self.check(False, self.BOOK, (), (0, 1), "c")
        self.check(False, self.BOOK, self.FIRST[:1], (0, 1), "c")
        self.check(False, self.BOOK, self.FIRST[1:], (0, 1), "c")
        self.check(True, self.BOOK, self.FIRST, (0, 1), "c")

    def test_any_name_of_the_tie(self):
        for place, word in (((1, 1), "c"), ((2, 1), "c"), ((0, 2), "d"), ((2, 2), "d")):
            # The places (0, 2) and (2, 2) are not in one lot; still both names are of the same tie, by its first end.
            self.check(True, self.BOOK, self.FIRST, place, word)
        for place, word in (((0, 0), "a"), ((0, 1), "b"), ((0, 0), "c"), ((0, 2), "c"), ((0, 1), "d"), ((0, 1), "z")):
            self.check(False, self.BOOK, self.FIRST, place, word)

    def test_names_are_connected_through_several_ties(self):
        # By its second end each tie is the next one, though their first places are in lots of their own.
        book = [walk("m a", "1 b"), walk("n c", "2 b"), walk("o c", "3 d"), lost("p d", "4")]
        put = [((0, 2), (1, 2)), ((1, 1), (2, 1)), ((2, 2), (3, 1))]
        for steps in ((("put", 0),), (("put", 1),), (("put", 0), ("put", 1), ("put", 2))):
            for place, word in (((0, 1), "a"), ((1, 1), "c"), ((2, 2), "d")):
                self.check(False, book, steps, place, word, put)
        book.append(walk("m a", "1 b"))
        steps = (("tie", (0, 1, 0), (4, 1, 0)),)
        self.check(False, book, steps, (0, 1), "a", put)
        for place, word in (((0, 1), "a"), ((0, 2), "b"), ((1, 2), "b"), ((1, 1), "c"), ((2, 1), "c"), ((2, 2), "d"), ((3, 1), "d")):
            self.check(True, book, steps + (("put", 2), ("put", 0), ("put", 1)), place, word, put)
            self.check(False, book, steps + (("put", 2), ("put", 0)), place, word, put)

    def test_two_words_in_one_lot(self):
        # Put together, both ends of the tie are in one lot: it has two words there.
        put = [((0, 1), (0, 0)), ((0, 0), (1, 1))]
        for words, wanted in (("a b", False), ("a", True), ("b", True), ("", True)):
            book = [walk("a", "b"), listed(words, "c", "d"), walk("a", "b")]
            self.check(wanted, book, (("put", 0), ("put", 1), ("tie", (0, 1, 0), (2, 1, 0))), (0, 0), "a", put)
            self.check(wanted, book, (("put", 0), ("put", 1)), (0, 0), "b", put)
        # A list that has one of its words is a living mark, too.
        book = [listed("a", "c", "d"), walk("a", "b")]
        self.check(True, book, (("put", 0), ("put", 1)), (0, 0), "a", [((1, 1), (0, 0)), ((0, 1), (0, 0))])
        self.check(False, book, (("put", 0),), (0, 0), "a", [((1, 1), (0, 0)), ((0, 1), (0, 0))])

    def test_words_of_lists_lost_letters_and_met_rows(self):
        book = [listed("a", "c", "d"), lost("c a", "d"), listed("a", "c", "d"), ("met", "a", 1), lost("a")]
        steps = (("tie", (0, 1, 0), (1, 1, 0)), ("tie", (0, 1, 0), (2, 1, 0)))
        self.check(True, book, steps, (2, 1), "a")
        self.check(False, book, steps[:1], (2, 1), "a")
        self.check(False, book, steps, (0, 0), "a")
        self.check(True, book + [("met", "a", 2)], (), (4, 0), "a")

    def test_made_and_ended_twice_before_the_lots_are_merged(self):
        book = [part("x a", "y b"), part("x a", "y b"), made("u", "v"), made("u", "v")]
        self.check(False, book, (), (0, 1), "a")
        self.check(True, book, (("tie", (0, 1, 0), (1, 1, 0)),), (0, 1), "a")
        self.check(True, book, (), (0, 0), "u")
        self.check(False, book, (), (0, 0), "x")


class CalmRowsTest(LifeCase):
    """The marks that runs add, as told in promise 20."""

    def marks(self, book, place, word):
        """The living and the lacking marks of the tie of this name behind all steps."""
        marks = Lives(folded(book, ()), ()).marks_at(place, word)
        return sorted(marks.living), sorted(marks.lacking)

    def test_a_tie_that_was_made_lives_at_the_next_row_of_the_run(self):
        self.lifeless(made("a", "b"), lost("a"), ("calm", 0))
        self.lifeless(made("a", "b"), listed("x"), ("calm", 0))
        self.lifeless(FILL, made("a", "b"), lost("x b", "y"), FILL, ("calm", 1))
        self.lifeless(FILL, made("a", "b"), lost("a"), ("calm", 0))
        self.alive(made("a", "b"), lost("a"))
        self.alive(made("a", "b"), FILL, ("calm", 0))
        self.alive(made("a", "b"), ("calm", 0))

    def test_it_does_so_only_in_a_run_of_both_rows(self):
        self.alive(made("a", "b"), lost("a"), ("calm", 1))
        self.alive(FILL, ("calm", 0), made("a", "b"), lost("a"))
        self.alive(FILL, ("calm", 0), made("a", "b"), lost("a"), FILL, ("calm", 4))

    def test_and_only_at_the_next_row(self):
        self.alive(made("a", "b"), FILL, lost("a"), ("calm", 0))
        self.alive(made("a", "b"), ("calm", 0), lost("a"), ("calm", 0))
        self.assertEqual(self.marks([made("a", "b"), FILL, lost("a"), ("calm", 0)], (0, 0), "a"), ([1], [2]))
        self.assertEqual(self.marks([FILL, made("a", "b"), ("calm", 0)], (0, 0), "a"), ([2], []))

    def test_a_calm_row_has_no_other_mark(self):
        self.lifeless(made("a", "b"), ("calm", 0), lost("a"), walk("a", "b"))
        self.alive(made("a", "b"), ("calm", 0), walk("a", "b"), lost("a"))
        self.alive(walk("a", "b"), ("calm", 0), walk("a", "b"))

    def test_a_tie_that_was_ended_lacks_at_all_later_rows_of_the_run(self):
        book = [part("a", "b"), FILL, FILL, ("calm", 0), FILL]
        self.alive(*book)
        self.assertEqual(self.marks(book, (0, 0), "a"), ([0], [1, 2, 3]))
        self.assertEqual(self.marks(book, (0, 1), "b"), ([0], [1, 2, 3]))
        self.assertEqual(self.marks(book[:3], (0, 0), "a"), ([0], []))
        self.assertEqual(self.marks([FILL] + book[:3] + [("calm", 2)], (0, 0), "a"), ([1], []))
        self.assertEqual(self.marks([FILL] + book[:3] + [("calm", 0)], (0, 0), "a"), ([1], [2, 3, 4]))
        self.lifeless(part("a", "b"), FILL, walk("a", "b"), ("calm", 0))

    def test_spans_that_share_a_row_make_one_run(self):
        spans = [part("a", "b"), FILL, ("calm", 0), FILL, ("calm", 2), FILL, ("calm", 5)]
        self.assertEqual(self.marks(spans, (0, 0), "a"), ([0], [1, 2, 3, 4]))
        spans[4] = ("calm", 3)
        self.assertEqual(self.marks(spans, (0, 0), "a"), ([0], [1, 2]))
        spans[6] = ("calm", 0)
        self.assertEqual(self.marks(spans, (0, 0), "a"), ([0], [1, 2, 3, 4, 5, 6]))
        two = [FILL, ("calm", 0), part("a", "b"), FILL, ("calm", 2), ("calm", 4)]
        self.assertEqual(self.marks(two, (0, 0), "a"), ([2], [3, 4, 5]))
        spans[6] = ("calm", 2)
        self.assertEqual(self.marks(spans, (0, 0), "a"), ([0], [1, 2, 3, 4, 5, 6]))


if __name__ == "__main__":
    unittest.main()
