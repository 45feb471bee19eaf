"""Promises 4, 24 and 25: the judge of certificates about several books, also of those that the program does not tell."""

import unittest

from ownwords.several import could, is_barred

from tests import naive_several
from tests.helper import LIST, PART, TIE, changed, listed, lost, row, strange_values, walk

ONE = ("one", ("ann", 0, 1), ("bob", 0, 1))


class PaperCase(unittest.TestCase):
    def check(self, wanted, books, wishes, *whys, steps=()):
        """Whether these are certificates behind these steps."""
        for why in whys:
            thing = ("never", steps, why)
            self.assertIs(is_barred(books, wishes, thing), wanted, why)
            self.assertIs(naive_several.is_never(books, wishes, thing), wanted, why)
            self.assertIs(is_barred(books, tuple(wishes), thing), wanted)


class ChoiceTest(PaperCase):
    # A walk along x, a loss of x, and another walk along x.
    BOOKS = {"ann": [walk("x", "y"), lost("x"), walk("x", "y")], "bob": [walk("", "")]}
    X = (("ann", 0, 0), "x")
    AHEAD = ("ring", ((("ann", 1), ("ann", 0), ("ahead", X)), (("ann", 0), ("ann", 1), ("book", "ann"))))
    BEHIND = ("ring", ((("ann", 2), ("ann", 1), ("behind", X)), (("ann", 1), ("ann", 2), ("book", "ann"))))

    def tree(self, e=X, m=("ann", 1), one=AHEAD, two=BEHIND):
        """The choice, with some part of it changed."""
        return ("choice", e, m, one, two)

    def test_a_choice(self):
        self.check(True, self.BOOKS, [], self.tree())
        self.assertEqual(could(self.BOOKS, [])[2][0], "choice")
        for at in range(3):
            for place, word in ((("ann", at, 0), "x"), (("ann", at, 0), "x")):
                self.check(True, self.BOOKS, [], self.tree(e=(place, word)))
        # The other end names the tie too; and the arrows may call the tie by other names than the choice.
        self.check(True, self.BOOKS, [], self.tree(e=(("ann", 0, 1), "y")), self.tree(e=(("ann", 2, 1), "y")))
        ahead = ("ring", ((("ann", 1), ("ann", 0), ("ahead", (("ann", 2, 1), "y"))), self.AHEAD[1][1]))
        self.check(True, self.BOOKS, [], self.tree(one=ahead), self.tree(e=(("ann", 0, 1), "y"), one=ahead))

    def test_what_is_no_choice(self):
        self.check(
            False, self.BOOKS, [], self.AHEAD, self.BEHIND, self.tree(one=self.BEHIND), self.tree(two=self.AHEAD),
            self.tree(one=self.BEHIND, two=self.AHEAD), self.tree(m=("ann", 0)), self.tree(m=("ann", 2)), self.tree(m=("bob", 0)),
            self.tree(e=(("ann", 0, 0), "y")), self.tree(e=(("ann", 0, 1), "x")), self.tree(e=(("bob", 0, 0), "x")), self.tree()[:4],
            self.tree() + ((),), list(self.tree()), self.tree(m=("ann", True)), self.tree(m=1), self.tree(e=(("ann", False, 0), "x")),
            self.tree(e=(("ann", 0), "x")), self.tree(e=("x", ("ann", 0, 0))), self.tree(e=[("ann", 0, 0), "x"]), self.tree(m=("zoe", 1)),
            ("choice", self.X, ("ann", 1), (self.AHEAD,), self.BEHIND), ("choose",) + self.tree()[1:], self.tree(m=("ann", 9)),
        )

    def test_arrows_of_a_ring(self):
        book, other = ("book", "ann"), ("book", "bob")
        for arrow, wanted in (
            ((("ann", 0), ("ann", 1), book), True), ((("ann", 0), ("ann", 1), other), False), ((("ann", 1), ("ann", 0), book), False),
            ((("ann", 0), ("ann", 1), ("book", "zoe")), False), ((("ann", 0), ("ann", 1), ("book",)), False),
            ((("ann", 0), ("ann", 1), ("book", "ann", ())), False), ((("ann", 0), ("ann", 1), ["book", "ann"]), False),
            ((("ann", 0), ("ann", 1), ("wish", 0)), False), ((("ann", 0), ("ann", 1), ("born", self.X)), False),
            ((("ann", 0), ("ann", 1), ("dead", self.X)), False), ((("ann", 0), ("ann", 1), ("behind", self.X)), False),
            ((("ann", 0), ("ann", 1), ("ahead", self.X)), False), ((("ann", 0), ("ann", 1)), False), (None, False), ((), False),
            ((("ann", 0), ("ann", 1), book, book), False), ([("ann", 0), ("ann", 1), book], False), ((("ann", 0), ("bob", 0), book), False),
            ((("ann", False), ("ann", True), book), False), (("ann", "ann", book), False), (((0,), (1,), book), False),
        ):
            ring = ("ring", (self.AHEAD[1][0], arrow))
            self.check(wanted, self.BOOKS, [], self.tree(one=ring))
            self.check(wanted, self.BOOKS, [], self.tree(one=("ring", ring[1][::-1])))

    def test_one_condition_of_an_arrow_alone(self):
        books = {"ann": [walk("x", "y"), lost("x"), row("x", PART, "came", "y", None)], "bob": [walk("", ""), walk("", "")]}
        x, one, two = self.X, ("ann", 1), ("bob", 0)
        wishes = [("ahead", one, two), ("ahead", two, one), ("ahead", two, ("ann", 0)), ("ahead", ("ann", 2), two), ("ahead", two, ("ann", 2))]
        ahead = ("ring", ((one, ("ann", 0), ("ahead", x)), (("ann", 0), one, ("book", "ann"))))
        behind = ("ring", ((("ann", 2), one, ("behind", x)), (one, ("ann", 2), ("book", "ann"))))
        self.check(True, books, wishes, ("choice", x, one, ahead, behind))
        for wrong in (
            # Nothing speaks of the tie at bob's moment.
            ("ring", ((one, two, ("ahead", x)), (two, one, ("wish", 1)))), ("ring", ((two, one, ("behind", x)), (one, two, ("wish", 0)))),
            ("ring", ((("ann", 2), two, ("dead", x)), (two, ("ann", 2), ("wish", 4)))),
            ("ring", ((two, ("ann", 2), ("dead", x)), (("ann", 2), two, ("wish", 3)))),
            ("ring", ((two, ("ann", 0), ("born", x)), (("ann", 0), one, ("book", "ann")), (one, two, ("wish", 0)))),
            # No moment is ahead of itself, and an arrow of a book is between two rows of that book.
            ("ring", ((one, one, ("book", "ann")),)), ("ring", ((two, one, ("book", "ann")), (one, two, ("wish", 0)))),
            ("ring", ((one, two, ("book", "bob")), (two, one, ("wish", 1)))), ("ring", ((one, two, ("book", "ann")), (two, one, ("wish", 1)))),
            ("ring", ((one, ("ann", 0), ("ahead", (("ann", 0, 0), "z"))), ahead[1][1])), ("ring", ((("ann", 1), ("ann", 1), ("ahead", x)),)),
        ):
            self.check(False, books, wishes, ("choice", x, one, wrong, behind), ("choice", x, one, ahead, wrong), wrong)

    def test_rings_of_other_forms(self):
        one, two = self.AHEAD[1]
        for arrows, wanted in (
            ((one, two), True), ((two, one), True), ((one, two, one, two), True), ((one,), False), ((two,), False), ((), False),
            ((one, one), False), ([one, two], False), (None, False), ((one, two, two), False), (one + two, False), (((one, two),), False),
        ):
            self.check(wanted, self.BOOKS, [], self.tree(one=("ring", arrows)))
        self.check(False, self.BOOKS, [], self.tree(one=("ring",)), self.tree(one=("ring", (one, two), ())), self.tree(one=(one, two)))
        # A longer way round, over the third row.
        longer = (one, (("ann", 0), ("ann", 1), ("book", "ann")))
        self.check(True, self.BOOKS, [], self.tree(one=("ring", longer)))
        third = ((("ann", 1), ("ann", 2), ("ahead", self.X)), (("ann", 2), ("ann", 1), ("behind", self.X)))
        self.check(False, self.BOOKS, [], self.tree(one=("ring", third)))

    def test_choices_that_are_not_needed(self):
        tree = self.tree()
        self.check(True, self.BOOKS, [], self.tree(one=tree, two=tree), self.tree(one=tree), self.tree(two=tree))
        # What was chosen above may be chosen once more, even the other way round: then both sides are chosen.
        both = ("ring", ((("ann", 1), ("ann", 0), ("ahead", self.X)), (("ann", 0), ("ann", 1), ("behind", self.X))))
        self.check(True, self.BOOKS, [], self.tree(one=self.tree(two=both)), self.tree(two=self.tree(one=both)))
        self.check(False, self.BOOKS, [], self.tree(one=self.tree(one=both)), self.tree(two=self.tree(two=both)), self.tree(one=both))
        # Nothing but losses speaks of this tie.
        books = {"ann": self.BOOKS["ann"], "bob": [lost("z")]}
        z = (("bob", 0, 0), "z")
        self.check(True, books, [], ("choice", z, ("bob", 0), tree, tree), self.tree(one=("choice", z, ("bob", 0), self.AHEAD, self.AHEAD)))
        self.check(False, books, [], ("choice", z, ("bob", 0), tree, self.AHEAD), ("choice", z, ("ann", 1), tree, tree))

    def test_deep_trees(self):
        tree = self.tree()
        for _ in range(400):
            tree = self.tree(one=self.AHEAD, two=tree)
        self.assertIs(is_barred(self.BOOKS, [], ("never", (), tree)), True)
        tree = self.AHEAD
        for _ in range(400):
            tree = self.tree(one=self.AHEAD, two=tree)
        self.assertIs(is_barred(self.BOOKS, [], ("never", (), tree)), False)
        tree = self.tree()
        for _ in range(8):
            tree = self.tree(one=tree, two=tree)
        self.assertIs(is_barred(self.BOOKS, [], ("never", (), tree)), True)

    def test_only_known_moments(self):
        # At a living moment, either side is a ring of a single arrow.
        books = {"ann": [row("x", LIST, "came", "y", ()), walk("", "")], "bob": []}
        ahead = ("ring", ((("ann", 0), ("ann", 0), ("ahead", (("ann", 0, 1), "y"))),))
        behind = ("ring", ((("ann", 0), ("ann", 0), ("behind", (("ann", 0, 0), "x"))),))
        tree = ("choice", (("ann", 0, 1), "y"), ("ann", 0), ahead, behind)
        self.check(True, books, [], tree)
        self.check(False, books, [], ahead, behind, tree[:3] + (behind, ahead))
        self.assertEqual(could(books, [])[0], "never")


class ArrowTest(PaperCase):
    """Arrows of ties that were made and ended."""

    TIE_ROW = row("a", TIE, "came", "p", ("c", "x"))

    def test_born(self):
        books = {"ann": [walk("c", "x"), self.TIE_ROW], "bob": []}
        c, x = (("ann", 0, 0), "c"), (("ann", 1, 1), "x")
        merged = (("tie", ("ann", 0, 1, 0), ("ann", 1, 2, 0)),)
        back = (("ann", 0), ("ann", 1), ("book", "ann"))
        for e in (c, x, (("ann", 0, 1), "x"), (("ann", 1, 0), "c")):
            self.check(True, books, [], ("ring", ((("ann", 1), ("ann", 0), ("born", e)), back)), steps=merged)
            self.check(False, books, [], ("ring", ((("ann", 1), ("ann", 0), ("dead", e)), back)), steps=merged)
            self.check(False, books, [], ("ring", ((("ann", 1), ("ann", 0), ("ahead", e)), back)), steps=merged)
        # Without the step its names are not all in one lot, but ties are the same by their names anyway.
        self.check(True, books, [], ("ring", ((("ann", 1), ("ann", 0), ("born", c)), back)))
        self.check(False, books, [], ("ring", ((("ann", 1), ("ann", 0), ("born", (("ann", 0, 0), "a"))), back)))
        self.check(False, books, [], ("ring", ((("ann", 1), ("ann", 0), ("born", (("ann", 0, 0), "z"))), back)))

    def test_born_and_dead(self):
        books = {"ann": [row("c", PART, "came", "x", None), self.TIE_ROW], "bob": []}
        back, c = (("ann", 0), ("ann", 1), ("book", "ann")), (("ann", 0, 0), "c")
        self.check(True, books, [], ("ring", ((("ann", 1), ("ann", 0), ("born", c)), back)))
        self.check(False, books, [], ("ring", ((("ann", 0), ("ann", 1), ("born", c)), (("ann", 1), ("ann", 0), ("born", c)))))

    def test_dead(self):
        books = {"ann": [row("c", PART, "came", "x", None), walk("c", "x")], "bob": []}
        back, c = (("ann", 0), ("ann", 1), ("book", "ann")), (("ann", 1, 0), "c")
        self.check(True, books, [], ("ring", ((("ann", 1), ("ann", 0), ("dead", c)), back)))
        # A tie is living where it ends, but that is one moment.
        self.check(False, books, [], ("ring", ((("ann", 0), ("ann", 0), ("dead", c)),)), ("ring", ((("ann", 1), ("ann", 1), ("dead", c)),)))
        self.check(False, books, [], ("ring", ((("ann", 0), ("ann", 1), ("dead", c)), (("ann", 1), ("ann", 0), ("dead", c)))))

    def test_living_where_it_is_born(self):
        books = {"ann": [row("c", TIE, "came", "x", ("c", "x"))], "bob": []}
        self.check(True, books, [], ("ring", ((("ann", 0), ("ann", 0), ("born", (("ann", 0, 0), "c"))),)))
        self.assertEqual(could(books, [])[0], "never")
        wishes = [("lives", ("ann", 0, 1), "x", ("ann", 0))]
        self.check(True, {"ann": [self.TIE_ROW], "bob": []}, wishes, ("ring", ((("ann", 0), ("ann", 0), ("born", (("ann", 0, 1), "x"))),)))
        self.check(False, {"ann": [self.TIE_ROW], "bob": []}, [], ("ring", ((("ann", 0), ("ann", 0), ("born", (("ann", 0, 1), "x"))),)))

    def test_wishes(self):
        books = {"ann": [walk("", ""), walk("", "")], "bob": [walk("", "")]}
        wishes = [("ahead", ("ann", 1), ("bob", 0)), ("two", ("ann", 0, 0), ("bob", 0, 0)), ("ahead", ("bob", 0), ("ann", 0))]
        arrows = ((("ann", 1), ("bob", 0), ("wish", 0)), (("bob", 0), ("ann", 0), ("wish", 2)), (("ann", 0), ("ann", 1), ("book", "ann")))
        self.check(True, books, wishes, ("ring", arrows), ("ring", arrows[1:] + arrows[:1]))
        self.check(False, books, wishes[::-1], ("ring", arrows[:1] + arrows[:1]))
        for number in (1, 2, 3, -1, -3, False, "0", None, (0,)):
            changed_arrow = arrows[0][:2] + (("wish", number),)
            self.check(False, books, wishes, ("ring", (changed_arrow,) + arrows[1:]))
        self.check(False, books, wishes[:2], ("ring", arrows))

    def test_the_same_lot(self):
        books = {"ann": [walk("a", "p"), walk("a", "p")], "bob": [walk("", "")]}
        wishes = [("one", ("ann", 0, 1), ("bob", 0, 0)), ("two", ("ann", 0, 1), ("ann", 1, 1)), ("two", ("ann", 0, 1), ("bob", 0, 0))]
        tie, put = ("tie", ("ann", 0, 1, 0), ("ann", 1, 1, 0)), ("put", 0)
        self.check(True, books, wishes, ("same", 1), steps=(tie,))
        self.check(True, books, wishes, ("same", 2), steps=(put,))
        self.check(True, books, wishes, ("same", 1), ("same", 2), steps=(put, tie, tie, put))
        self.check(False, books, wishes, ("same", 1), ("same", 0), ("same", 3), ("same", True), ("same", -1), ("same", -2), steps=(put,))
        self.check(False, books, wishes, ("same", 1), ("same", 2))
        self.check(False, books, wishes, ("same",), ("same", 2, 2), ["same", 2], ("same", (2,)), "same", steps=(put,))
        self.check(False, books, wishes, ("same", 2), steps=(("put", 1),))
        self.check(False, books, wishes, ("same", 2), steps=(put, ("put", 2)))
        self.check(False, books, wishes, ("same", 2), steps=[put])


class StepTest(PaperCase):
    BOOKS = {
        "ann": [row("a", ("meet", 1), "came", "p", "met"), row("b", ("meet", 2), "came", "q", "met"), row("a c", ("meet", 3), "came", "p r", "self")],
        "bob": [("met", "p", 1), ("met", "q", 2), row("", ("leave", 5), "came", "", None), row("d", ("look", 5), "came", "s", False)],
    }
    WISH = ("two", ("ann", 0, 1), ("ann", 1, 1))

    def test_meet_steps(self):
        one, two = ("meet", ("ann", 0)), ("meet", ("ann", 1))
        self.check(True, self.BOOKS, [self.WISH], ("same", 0), steps=(one, two))
        self.check(True, self.BOOKS, [self.WISH], ("same", 0), steps=(two, one, two, ("self", ("ann", 2))))
        for steps in (
            (one,), (two,), (("meet", ("bob", 0)), two), (one, ("meet", ("bob", 1))), (one, ("meet", ("ann", 2))), (one, ("meet", 1)),
            (one, ("meet", ("ann", True))), (one, two, ("meet",)), (one, two, ("self", ("ann", 0))), (one, two, ("look", ("bob", 3))),
            (one, two, ("self", 2)), (one, two, ("put", 0)), (one, two, ("meet", ("ann", 1), 0)), (one, two, None), (one, two, []),
        ):
            self.check(False, self.BOOKS, [self.WISH], ("same", 0), steps=steps)

    def test_steps_of_one_book_are_none_of_several(self):
        books = {"ann": [walk("a", "p"), walk("a", "q")], "bob": []}
        clash = ("words", ("ann", 0, 1, 0), ("ann", 1, 1, 0))
        self.check(True, books, [], clash, steps=(("tie", ("ann", 0, 1, 0), ("ann", 1, 1, 0)),))
        self.check(False, books, [], clash, steps=(("tie", (0, 1, 0), (1, 1, 0)),))
        self.check(False, books, [], ("words", (0, 1, 0), (1, 1, 0)), ("loop", (0, 1)), ("loop", "ann"), ("loop", ("ann", 0)), ("loop", ("ann",)))

    def test_answers_that_differ_a_little(self):
        cases = [(self.BOOKS, [self.WISH]), (ChoiceTest.BOOKS, [])]
        tie = row("a", TIE, "came", "p", ("c", "x"))
        cases.append(({"ann": [walk("a", "p"), tie], "bob": [walk("b", "q"), walk("b x", "q c")]}, [ONE, ("ahead", ("bob", 1), ("ann", 1))]))
        cases.append(({"ann": [listed("p q", "a", "p")], "bob": [listed("q", "b", "q")]}, [ONE, ("lives", ("bob", 0, 1), "p", ("bob", 0))]))
        for books, wishes in cases:
            answer = could(books, wishes)
            self.assertTrue(naive_several.is_never(books, wishes, answer))
            for thing in changed(answer):
                self.assertIs(is_barred(books, wishes, thing), naive_several.is_never(books, wishes, thing), thing)

    def test_values_of_all_kinds_where_meet_letters_are(self):
        steps = (("meet", ("ann", 0)), ("meet", ("ann", 1)), ("self", ("ann", 2)))
        for value in strange_values() + [("ann", 3), ("bob", 0), ("bob", 3), "zoe", 5, ("ann", True), ("ann", 0, 0)]:
            for clash in (("keeps", ("ann", 0), value), ("keeps", value, ("ann", 1)), ("keeps", value, "bob"), ("signs", value), ("owners", value, "bob")):
                for told in (steps, ()):
                    self.check(False, self.BOOKS, [], clash, steps=told)

    def test_keeps_of_a_letter_that_met_someone_at_home(self):
        wishes = [("one", ("ann", 0, 1), ("ann", 0, 0))]
        self.check(True, self.BOOKS, wishes, ("keeps", ("ann", 0), "ann"), steps=(("put", 0),))
        self.check(False, self.BOOKS, wishes, ("keeps", ("ann", 0), "ann"), ("keeps", ("ann", 0), "bob"))
        self.check(False, self.BOOKS, wishes, ("keeps", ("ann", 0), "bob"), steps=(("put", 0),))

    def test_values_of_all_kinds(self):
        books, tree = ChoiceTest.BOOKS, ChoiceTest("test_a_choice").tree
        arrow = ChoiceTest.AHEAD[1][0]
        for value in strange_values():
            for thing in (
                value, ("never", value), ("never", value, value), ("never", (), value), (value, (), tree()), ("never", (value,), tree()),
                ("never", (("meet", value),), tree()), ("never", (("look", value),), tree()), ("never", (("tie", value, value),), tree()),
                ("never", (), ("ring", value)), ("never", (), ("ring", (value,))), ("never", (), tree(e=value)), ("never", (), tree(m=value)),
                ("never", (), tree(one=value)), ("never", (), tree(two=value)), ("never", (), tree(e=(value, "x"))),
                ("never", (), tree(e=(("ann", 0, 0), value))), ("never", (), tree(m=("ann", value))), ("never", (), tree(m=(value, 1))),
                ("never", (), tree(one=("ring", ((value, *arrow[1:]), ChoiceTest.AHEAD[1][1])))),
                ("never", (), tree(one=("ring", ((arrow[0], value, arrow[2]), ChoiceTest.AHEAD[1][1])))),
                ("never", (), tree(one=("ring", ((*arrow[:2], value), ChoiceTest.AHEAD[1][1])))),
                ("never", (), tree(one=("ring", ((*arrow[:2], ("ahead", value)), ChoiceTest.AHEAD[1][1])))),
                ("never", (), tree(one=("ring", ((*arrow[:2], ("book", value)), ChoiceTest.AHEAD[1][1])))),
                ("never", (), tree(one=("ring", ((*arrow[:2], ("wish", value)), ChoiceTest.AHEAD[1][1])))),
                ("never", (), ("owners", value, "ann")),
                ("never", (), tree(one=("ring", ((*arrow[:2], (value, ChoiceTest.X)), ChoiceTest.AHEAD[1][1])))),
                ("never", (), ("words", value, value)), ("never", (), ("loop", value)), ("never", (), ("owners", value, value)),
                ("never", (), ("keeps", value, value)), ("never", (), ("keeps", ("ann", 0), value)), ("never", (), ("signs", value)),
                ("never", (), ("life", value, "x")), ("never", (), ("life", ("ann", 0, 0), value)), ("never", (), ("same", value)),
                ("never", (), ("owners", "ann", value)), ("never", (), (value, value)), ("never", (), ("choice",) + (value,) * 4),
            ):
                self.assertIs(is_barred(books, [], thing), False)


if __name__ == "__main__":
    unittest.main()
