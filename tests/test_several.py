"""Promises 23 to 25: several books, the order of their moments, and wishes."""

import unittest

from ownwords.errors import NoBook, TooMany
from ownwords.histories import played
from ownwords.several import could, fits, is_barred, known

from tests import naive_several, slow
from tests.checks import check_fitting, is_true
from tests.helper import PART, TIE, WALK, born, calm, changed, gone, letter, listed, lost, row, strange_values, walk
from tests.plays import Dice, between_books, changed_book, neighbours_books, shared_history, some_wishes

ONE = ("one", ("ann", 0, 1), ("bob", 0, 1))
CONTRARY = {"one": "two", "two": "one", "lives": "lacks", "lacks": "lives"}


def meet(way, backs, sign, thing):
    """The row of a meet letter that came."""
    return row(way, ("meet", sign), "came", backs, thing)


def contrary(wish):
    """The contrary of a wish."""
    return ("ahead", wish[2], wish[1]) if wish[0] == "ahead" else (CONTRARY[wish[0]], *wish[1:])


class SeveralCase(unittest.TestCase):
    def check_could(self, wanted, books, *wishes):
        """The answer is of this kind, or a certificate of this kind, and shows what it says."""
        wishes = list(wishes)
        answer = could(books, wishes)
        self.assertEqual(slow.Search(books).is_possible(*wishes), wanted == "history")
        if wanted == "history":
            self.assertEqual((answer[0], len(answer)), ("history", 2))
            check_fitting(self, books, answer[1], wishes)
            self.assertIs(fits(books, answer[1]), True)
        else:
            self.assertEqual((answer[0], len(answer)), ("never", 3))
            self.assertEqual(answer[2][0], wanted)
            self.assertTrue(naive_several.is_never(books, wishes, answer), answer)
        self.assertIs(is_barred(books, wishes, answer), wanted != "history")
        return answer

    def check_known(self, wanted, books, wish):
        """The answer is of this kind, and shows what it says."""
        answer = known(books, wish)
        search = slow.Search(books)
        possible = (search.is_possible(wish), search.is_possible(contrary(wish)))
        self.assertEqual({(True, True): "open", (True, False): "yes", (False, True): "no"}.get(possible, "clash"), wanted)
        self.assertEqual(answer[0], wanted)
        self.assertEqual(len(answer), 3)
        if wanted == "open":
            check_fitting(self, books, answer[1], [wish])
            check_fitting(self, books, answer[2], [contrary(wish)])
            self.assertFalse(is_true(answer[2], books, wish))
        else:
            wishes = [contrary(wish)] if wanted == "yes" else [wish]
            self.assertTrue(naive_several.is_never(books, wishes, ("never",) + answer[1:]))
            self.assertIs(is_barred(books, wishes, ("never",) + answer[1:]), True)
        turned = {"yes": "no", "no": "yes"}.get(wanted, wanted)
        self.assertEqual(known(books, contrary(wish))[0], turned)

    def check_judge(self, wanted, books, wishes, *things):
        """Whether these are certificates."""
        for thing in things:
            self.assertIs(is_barred(books, wishes, thing), wanted, thing)
            self.assertIs(naive_several.is_never(books, wishes, thing), wanted, thing)


class ClashTest(SeveralCase):
    """Each kind of clash."""

    def test_words(self):
        books = {"ann": [walk("a", "p"), walk("a", "q")], "bob": []}
        self.check_could("words", books)
        books = {"ann": [walk("a x", "p 1")], "bob": [walk("b x", "q 2")]}
        self.check_could("words", books, ("one", ("ann", 0, 1), ("bob", 0, 1)))
        self.check_could("history", books, ("one", ("ann", 0, 2), ("bob", 0, 2)))
        things = [("never", (("put", 0),), ("words", *ends)) for ends in (
            (("ann", 0, 2, 0), ("bob", 0, 2, 0)), (("bob", 0, 2, 0), ("ann", 0, 2, 0)),
        )]
        self.check_judge(True, books, [("one", ("ann", 0, 1), ("bob", 0, 1))], *things)
        self.check_judge(False, books, [("two", ("ann", 0, 1), ("bob", 0, 1))], *things)
        self.check_judge(False, books, [("one", ("ann", 0, 1), ("bob", 0, 2))], *things)

    def test_loop(self):
        books = {"ann": [walk("a", "p")], "bob": [meet("b", "q", 1, "met")]}
        self.check_could("loop", books, ("one", ("ann", 0, 0), ("ann", 0, 1)))
        self.check_judge(True, books, [("one", ("ann", 0, 0), ("ann", 0, 1))], ("never", (("put", 0),), ("loop", ("ann", 0, 1))))
        self.check_judge(False, books, [("one", ("ann", 0, 0), ("ann", 0, 1))], ("never", (("put", 0),), ("loop", ("bob", 0, 1))))
        books["bob"] = [walk("b", "q")]
        self.check_could("history", books, ("one", ("ann", 0, 0), ("bob", 0, 1)))

    def test_apart(self):
        looks = [row("a", ("leave", 1), "came", "p", None), row("b", ("look", 1), "came", "q", False)]
        self.check_could("apart", {"ann": looks, "bob": []}, ("one", ("ann", 0, 1), ("ann", 1, 1)))
        # A mark belongs to one owner.
        self.check_could("history", {"ann": looks[:1], "bob": looks[1:]}, ("one", ("ann", 0, 1), ("bob", 0, 1)))
        self.check_could("history", {"ann": looks[1:], "bob": looks[:1]}, ("one", ("ann", 0, 1), ("bob", 0, 1)))

    def test_unleft(self):
        left, found = row("a", ("leave", 1), "came", "p", None), row("b", ("look", 1), "came", "q", True)
        self.check_could("unleft", {"ann": [left], "bob": [found]})
        self.check_could("unleft", {"ann": [found, left], "bob": []})
        self.check_could("history", {"ann": [left, found], "bob": [left, found]})
        self.check_judge(True, {"ann": [left], "bob": [found]}, [], ("never", (), ("unleft", ("bob", 0))))
        self.check_judge(False, {"ann": [left], "bob": [found]}, [], ("never", (), ("unleft", ("ann", 0))), ("never", (), ("unleft", 0)))

    def test_keeps_of_two_rows(self):
        def check(wanted, one, two, apart=True):
            books = {"ann": [meet("a", "p", 1, one)], "bob": [meet("b", "q", 2, two)]}
            self.check_could(wanted, books, ("one", ("ann", 0, 1), ("bob", 0, 1)))
            thing = ("never", (("put", 0),), ("keeps", ("ann", 0), ("bob", 0)))
            self.check_judge(wanted == "keeps", books, [("one", ("ann", 0, 1), ("bob", 0, 1))], thing)
            turned = ("never", (("put", 0),), ("keeps", ("bob", 0), ("ann", 0)))
            self.check_judge(False, books, [("one", ("ann", 0, 1), ("bob", 0, 1))], turned, ("never", (), thing[2]))
        check("keeps", None, "met")
        check("keeps", "met", None)
        check("history", None, None)
        check("history", "met", "met")
        for one, two, wanted in ((None, "met", "keeps"), ("met", None, "keeps"), ("met", "met", "history"), (None, None, "history")):
            books = {"ann": [meet("a", "p", 1, one), meet("b", "q", 2, two)], "bob": []}
            self.check_could(wanted, books, ("one", ("ann", 0, 1), ("ann", 1, 1)))
        books = {"ann": [meet("a b", "p q", 1, "self"), meet("c", "r", 2, "met")], "bob": []}
        thing = ("never", (("put", 0),), ("keeps", ("ann", 0), ("ann", 1)))
        self.check_judge(True, books, [("one", ("ann", 0, 2), ("ann", 1, 1))], thing)
        # One owner may find another one where a third one is at home.
        books = {"ann": [meet("a b", "p q", 1, "self")], "bob": [meet("c", "r", 2, "met")], "cat": []}
        self.check_judge(False, books, [("one", ("ann", 0, 2), ("bob", 0, 1))], thing[:2] + (("keeps", ("ann", 0), ("bob", 0)),))
        books["bob"] = [meet("c", "r", 2, None)]
        self.check_judge(True, books, [("one", ("ann", 0, 2), ("bob", 0, 1))], thing[:2] + (("keeps", ("ann", 0), ("bob", 0)),))

    def test_keeps_of_a_row_and_an_owner(self):
        def check(wanted, name, told, home, other=()):
            books = {"ann": [walk("", ""), meet("a", "p", 1, told)], "bob": [walk("", ""), *other]}
            wish = ("one", ("ann", 1, 1), (home, 0, 0))
            self.check_judge(wanted, books, [wish], ("never", (("put", 0),), ("keeps", ("ann", 1), name)))
        check(True, "bob", None, "bob")
        check(True, "ann", None, "ann")
        check(False, "ann", None, "bob")
        check(False, "bob", None, "ann")
        check(True, "bob", "self", "bob")
        check(False, "ann", "self", "ann")
        check(True, "ann", "met", "ann")
        check(True, "bob", "met", "bob")
        check(False, "bob", "met", "bob", [("met", "p", 1)])
        check(True, "bob", "met", "bob", [("met", "p", 2)])
        books = {"ann": [walk("", ""), meet("a", "p", 1, "met")], "bob": [walk("", "")], "cat": [("met", "p", 1)]}
        self.check_judge(False, books, [("one", ("ann", 1, 1), ("bob", 0, 0))], ("never", (("put", 0),), ("keeps", ("ann", 1), "bob")))
        for told, wanted in (("met", "keeps"), (None, "keeps")):
            books = {"ann": [walk("", ""), meet("a", "p", 1, told)], "bob": [walk("", "")]}
            self.check_could(wanted, books, ("one", ("ann", 1, 1), ("bob", 0, 0)))
        self.check_could("keeps", {"ann": [meet("", "", 1, None)], "bob": []})
        self.check_could("keeps", {"ann": [meet("", "", 1, "met")], "bob": []})
        self.check_could("history", {"ann": [meet("", "", 1, "self")], "bob": []})

    def test_life(self):
        # Two letters make a tie, or end one, and it is known to be the same.
        tie, part = row("a", TIE, "came", "p", ("b", "x")), row("a x", PART, "came", "p 1", None)
        self.check_could("life", {"ann": [tie, tie], "bob": []})
        self.check_could("life", {"ann": [part], "bob": [row("a x", PART, "came", "q 1", None)]}, ONE)
        books = {"ann": [part, part], "bob": []}
        self.check_could("life", books)
        for place, word in ((("ann", 0, 1), "x"), (("ann", 0, 2), "1"), (("ann", 1, 1), "x"), (("ann", 1, 2), "1")):
            steps = (("tie", ("ann", 0, 1, 0), ("ann", 1, 1, 0)), ("tie", ("ann", 1, 2, 0), ("ann", 0, 2, 0)))
            self.check_judge(True, books, [], ("never", steps, ("life", place, word)))
            self.check_judge(False, books, [], ("never", (), ("life", place, word)))
        self.check_judge(False, books, [], ("never", steps, ("life", ("ann", 0, 0), "a")), ("never", steps, ("life", ("ann", 0, 1), "y")))
        # Other ties without a life are no clash here.
        books = {"ann": [walk("a", "p"), lost("a"), walk("a", "p")], "bob": []}
        self.check_could("choice", books)
        self.check_judge(False, books, [], ("never", (), ("life", ("ann", 0, 0), "a")))

    def test_owners(self):
        books = {"ann": [walk("", "")], "bob": [("met", "p", 1)], "cat": []}
        self.check_could("owners", books, ("one", ("ann", 0, 0), ("bob", 0, 0)))
        wish = ("one", ("bob", 0, 0), ("ann", 0, 0))
        self.check_judge(True, books, [wish], ("never", (("put", 0),), ("owners", "ann", "bob")))
        self.check_judge(
            False, books, [wish], ("never", (("put", 0),), ("owners", "bob", "ann")), ("never", (), ("owners", "ann", "bob")),
            ("never", (("put", 0),), ("owners", "ann", "cat")), ("never", (("put", 0),), ("owners", "ann", "ann")),
            ("never", (("put", 0),), ("owners", "ann", "dan")),
        )

    def test_signs(self):
        books = {"ann": [meet("a", "p", 1, "met")], "bob": [("met", "q", 1)]}
        self.check_could("signs", books)
        self.check_judge(True, books, [], ("never", (), ("signs", ("ann", 0))))
        self.check_judge(False, books, [], ("never", (), ("signs", ("bob", 0))), ("never", (), ("signs", ("ann", 1))))
        books = {"ann": [meet("a", "p", 1, "met")], "bob": [("met", "p", 1)]}
        self.check_could("history", books)
        self.check_judge(False, books, [], ("never", (), ("signs", ("ann", 0))))
        # A letter that went nowhere has no back.
        books = {"ann": [meet("", "", 1, "met")], "bob": [("met", "p", 1)]}
        self.check_judge(True, books, [], ("never", (), ("signs", ("ann", 0))))
        self.assertEqual(could(books, [])[0], "never")


class HistoryTest(SeveralCase):
    def test_empty_books(self):
        for books in ({"ann": [], "bob": []}, {"ann": [], "bob": [], "cat": [], "dan": []}, {"ann": [walk("", "")], "bob": []}):
            answer = self.check_could("history", books)
            self.assertEqual({name for name, person in answer[1][1]} >= set(books), True)
        self.check_could("history", {"ann": [("met", "a", 1), listed("a b")], "bob": [], "cat": [lost("a")]})

    def test_meet_letters(self):
        self.check_could("history", {"ann": [meet("a", "p", 1, "met"), walk("a", "p")], "bob": [("met", "p", 1), walk("p", "a")]})
        # A meet letter without its met row met someone else, and a met row without its letter came from someone else.
        self.check_could("history", {"ann": [meet("a", "p", 1, "met")], "bob": [("met", "p", 2)]})
        self.check_could("history", {"ann": [meet("a", "p", 1, "met"), meet("b", "q", 2, "met")], "bob": [("met", "q", 2)], "cat": []})
        self.check_could("history", {"ann": [("met", "a", 1), ("met", "b", 3)], "bob": [("met", "a", 2), lost("a")]})
        self.check_could("history", {"youa": [meet("a", "p", 1, "met")], "youb": [("met", "p", 2)], "youc": []})
        self.check_could("history", {"ann": [meet("a b", "p q", 1, "met"), meet("c", "r", 2, None)], "bob": [meet("q", "b", 3, None), ("met", "q", 1)]})

    def test_letters_both_ways(self):
        books = {
            "ann": [meet("a", "p", 1, "met"), ("met", "a", 2), meet("a", "p", 3, "met")],
            "bob": [("met", "p", 1), meet("p", "a", 2, "met"), ("met", "p", 3)],
        }
        self.check_could("history", books)
        books["bob"][0], books["bob"][1] = books["bob"][1], books["bob"][0]
        answer = self.check_could("ring", books)
        self.assertLessEqual(len(answer[2][1]), 2)

    def test_three_books_in_a_ring(self):
        books = {
            "ann": [("met", "c", 3), meet("a", "p", 1, "met")], "bob": [("met", "p", 1), meet("b", "q", 2, "met")],
            "cat": [("met", "q", 2), meet("d", "c", 3, "met")],
        }
        self.check_could("ring", books)
        ring = (
            (("ann", 0), ("ann", 1), ("book", "ann")), (("bob", 0), ("bob", 1), ("book", "bob")), (("cat", 0), ("cat", 1), ("book", "cat")),
        )
        for at in range(3):
            self.check_judge(True, books, [], ("never", (), ("ring", ring[at:] + ring[:at])))
            self.check_judge(False, books, [], ("never", (), ("ring", ring[:at] + ring[at + 1:])), ("never", (), ("ring", ring[::-1])))
        self.check_judge(True, books, [], ("never", (), ("ring", ring + ring)))
        # Either row of a moment will do.
        mixed = ((("cat", 1), ("bob", 0), ("book", "ann")), (("ann", 1), ("cat", 0), ("book", "bob")), (("bob", 1), ("ann", 0), ("book", "cat")))
        self.check_judge(True, books, [], ("never", (), ("ring", mixed)))
        books["ann"].reverse()
        self.check_could("history", books)

    def test_the_order_of_names_does_not_matter(self):
        books = {"bob": [("met", "p", 1), walk("b", "q")], "ann": [meet("a", "p", 1, "met")]}
        turned = {name: books[name] for name in sorted(books)}
        wishes = [("one", ("bob", 0, 0), ("ann", 0, 1)), ("ahead", ("ann", 0), ("bob", 1))]
        self.check_could("history", books, *wishes)
        self.assertEqual(could(books, wishes), could(turned, wishes))

    def test_four_books_and_sixteen_rows(self):
        books = {
            name: [walk("a b c d e f g h", " ".join(name + str(step) for step in range(8))) for _ in range(4)]
            for name in ("ann", "bob", "cat", "dan")
        }
        check_fitting(self, books, could(books, [])[1])
        wishes = [("one", ("ann", 0, 8), (name, 3, 8)) for name in ("bob", "cat", "dan")]
        check_fitting(self, books, could(books, wishes)[1], wishes)
        words = " ".join(sorted("w" + str(number) for number in range(40)))
        books = {name: [listed(words) for _ in range(4)] for name in ("ann", "bob", "cat", "dan")}
        check_fitting(self, books, could(books, [])[1])
        self.assertEqual(known(books, ("lives", ("ann", 0, 0), "w7", ("dan", 2)))[0], "open")
        self.assertEqual(known(books, ("lives", ("ann", 0, 0), "w7", ("ann", 2)))[0], "yes")


class OrderTest(SeveralCase):
    """Ties that tell the order of moments."""

    def shared(self, ann, bob):
        """Two books whose owners reach one neighbour, as the wish says."""
        return {"ann": [walk("a", "p")] + ann, "bob": [walk("b", "q")] + bob}

    def check(self, wanted, ann, bob, *wishes):
        return self.check_could(wanted, self.shared(ann, bob), ONE, *wishes)

    def test_born_and_dead(self):
        tie = row("a", TIE, "came", "p", ("c", "x"))
        walked, part = walk("b x", "q c"), row("b x", PART, "came", "q c", None)
        # If the two know one neighbour, the tie that the one makes is there when the other one goes along it.
        self.check("history", [tie], [walked], ("ahead", ("ann", 1), ("bob", 1)))
        self.check("ring", [tie], [walked], ("ahead", ("bob", 1), ("ann", 1)))
        self.check("ring", [tie], [part], ("ahead", ("bob", 1), ("ann", 1)))
        other = row("a x", PART, "came", "p 1", None)
        self.check("history", [other], [walk("b x", "q 1")], ("ahead", ("bob", 1), ("ann", 1)))
        self.check("ring", [other], [walk("b x", "q 1")], ("ahead", ("ann", 1), ("bob", 1)))

    def test_lacking_ahead_or_behind(self):
        gone_row, there = lost("b x", "q"), walk("a x", "p 1")
        self.check("history", [there], [gone_row])
        self.check("history", [there], [gone_row], ("ahead", ("ann", 1), ("bob", 1)))
        self.check("history", [there], [gone_row], ("ahead", ("bob", 1), ("ann", 1)))
        between = (("ahead", ("ann", 1), ("bob", 1)), ("ahead", ("bob", 1), ("ann", 2)))
        self.check("choice", [there, there], [gone_row], *between)
        self.check("history", [there, there], [gone_row], between[0])
        self.check("history", [there, there], [gone_row], between[1])
        self.check("history", [there, there], [gone_row, gone_row])

    def test_a_choice_of_two(self):
        # Whichever side the first loss is on, the second one is on the same, and so are the wishes against both.
        there, gone_row = walk("a x", "p 1"), lost("b x", "q")
        answer = self.check("history", [there, walk("a y", "p 2")], [gone_row, lost("b y", "q")])
        self.assertEqual(answer[0], "history")
        self.check("choice", [there, there, there], [gone_row], ("ahead", ("ann", 1), ("bob", 1)), ("ahead", ("bob", 1), ("ann", 3)))
        books = self.shared([walk("a x", "p 1"), lost("a y", "p"), walk("a x", "p 1")], [lost("b x", "q"), walk("b y", "q 2"), lost("b x", "q")])
        self.check_could("history", books, ONE)

    def test_two_ties_that_cannot_both_be(self):
        # x is lost between the walks along y, and y between the walks along x.
        ann = [walk("a x", "p 1"), lost("a y", "p"), walk("a x", "p 1")]
        bob = [walk("b y", "q 2"), lost("b x", "q"), walk("b y", "q 2")]
        self.check("history", ann, bob)
        self.check("history", ann, bob, ("ahead", ("ann", 1), ("bob", 1)), ("ahead", ("bob", 1), ("ann", 3)))
        self.check("choice", ann, bob, ("ahead", ("ann", 1), ("bob", 1)), ("ahead", ("bob", 1), ("ann", 2)))

    def test_three_moments_of_which_none_is_between_the_others(self):
        # Each of the words is missing at one of the moments, and there at the two others.
        lists = {"ann": "u v", "bob": "v y", "cat": "u y"}
        books = {name: [listed("p q r " + words, "a", back)] for (name, words), back in zip(lists.items(), "pqr")}
        ones = [("one", ("ann", 0, 1), ("bob", 0, 1)), ("one", ("ann", 0, 1), ("cat", 0, 1))]
        self.assertEqual(naive_several.open_pairs(books, ones), 3)
        answer = self.check_could("choice", books, *ones)
        self.assertEqual([part[0] for part in answer[2][3:]], ["choice", "choice"])
        self.check_could("history", books, ones[0])
        for name in lists:
            fewer = {**books, name: [listed("p q r u v y", "a", dict(zip(lists, "pqr"))[name])]}
            self.check_could("history", fewer, *ones)
            self.assertEqual(naive_several.open_pairs(fewer, ones), 2)

    def test_one_choice_makes_the_others(self):
        # The moments of ann are not between those of bob, nor is bob's last one between ann's.
        books = {
            "ann": [listed("p q x", "a", "p"), listed("p q y", "a", "p")], "bob": [listed("p q y", "b", "q"), listed("p q x", "b", "q")],
        }
        for wishes in ([ONE], [ONE, ("ahead", ("ann", 0), ("bob", 0))], [ONE, ("ahead", ("bob", 0), ("ann", 0))]):
            ends = slow.Search(books).is_possible(*wishes)
            self.check_could("history" if ends else "choice", books, *wishes)

    def test_lost_letters_at_moments_that_are_the_same(self):
        met = {"ann": [meet("a", "p", 1, "met")], "bob": [("met", "p", 1)]}
        self.check_could("history", met)
        self.check_could("choice", met, ("lacks", ("bob", 0, 0), "p", ("bob", 0)))
        self.check_could("choice", met, ("lacks", ("ann", 0, 0), "a", ("bob", 0)))
        self.check_could("history", met, ("lives", ("ann", 0, 0), "a", ("bob", 0)), ("lives", ("bob", 0, 0), "p", ("ann", 0)))
        self.check_could("history", met, ("lacks", ("ann", 0, 0), "b", ("bob", 0)))

    def test_made_and_lacking_at_once(self):
        tie = row("a", TIE, "came", "p", ("c", "x"))
        books = {"ann": [tie], "bob": [walk("", "")]}
        self.check_could("history", books, ("lacks", ("ann", 0, 0), "c", ("ann", 0)))
        self.check_could("ring", books, ("lives", ("ann", 0, 0), "c", ("ann", 0)))
        answer = could(books, [("lives", ("ann", 0, 0), "c", ("ann", 0))])
        self.assertEqual(len(answer[2][1]), 1)
        self.check_could("history", books, ("lacks", ("ann", 0, 1), "x", ("bob", 0)), ("ahead", ("bob", 0), ("ann", 0)))
        self.check_could("history", books, ("lacks", ("ann", 0, 1), "x", ("bob", 0)), ("ahead", ("ann", 0), ("bob", 0)))
        self.check_could("ring", books, ("lives", ("ann", 0, 1), "x", ("bob", 0)), ("ahead", ("bob", 0), ("ann", 0)))
        # Chosen to lie behind its own birth, the moment makes a ring of a single arrow.
        e, wish = (("ann", 0, 0), "c"), ("lacks", ("ann", 0, 0), "c", ("ann", 0))
        ring = ("ring", ((("ann", 0), ("ann", 0), ("behind", e)),))
        later = ("ring", ((("ann", 0), ("bob", 0), ("ahead", e)), (("bob", 0), ("ann", 0), ("wish", 2))))
        wishes = [wish, ("lives", ("ann", 0, 0), "c", ("bob", 0)), ("ahead", ("bob", 0), ("ann", 0))]
        self.check_judge(True, books, wishes, ("never", (), ("choice", e, ("ann", 0), later, ring)))
        self.check_judge(False, books, wishes, ("never", (), ("choice", e, ("ann", 0), ring, later)), ("never", (), ring))
        ahead = ("ring", ((("ann", 0), ("ann", 0), ("ahead", e)),))
        self.check_judge(False, books, wishes, ("never", (), ("choice", e, ("ann", 0), ahead, ring)))

    def test_lists_of_two_owners(self):
        books = self.shared([listed("p q x", "a", "p")], [listed("p q", "b", "q")])
        self.check_could("history", books, ONE)
        self.check_could("history", books, ONE, ("ahead", ("ann", 1), ("bob", 1)))
        # A list that lacks the other owner's word tells of a time ahead of that owner's walk, or behind it.
        books = self.shared([listed("p", "a", "p")], [listed("p q", "b", "q")])
        self.check_could("history", books, ONE)
        self.check_could("choice", books, ONE, ("ahead", ("ann", 1), ("bob", 1)), ("ahead", ("bob", 0), ("ann", 1)))

    def test_six_choices_and_seven(self):
        for many in range(5, 10):
            books = {"ann": [walk("a x", "p 1")], "bob": [listed("p q", "b", "q") for _ in range(many)]}
            self.assertEqual(naive_several.open_pairs(books, [ONE]), many)
            if many <= 6:
                check_fitting(self, books, could(books, [ONE])[1], [ONE])
                self.assertEqual(known(books, ONE)[0], "open")
                continue
            for call in (lambda: could(books, [ONE]), lambda: known(books, ONE), lambda: known(books, contrary(ONE))):
                with self.assertRaises(TooMany) as caught:
                    call()
                self.assertEqual(caught.exception.many, many)
            check_fitting(self, books, could(books, [contrary(ONE)])[1], [contrary(ONE)])
            # What is required is no choice: here all of them, and here but one.
            for at, left in ((0, 0), (1, 1), (2, 2)):
                wishes = [ONE, ("ahead", ("ann", 0), ("bob", at))]
                self.assertEqual(naive_several.open_pairs(books, wishes), left)
                check_fitting(self, books, could(books, wishes)[1], wishes)
            # Nor does it matter behind a clash, two places in one lot, or a ring.
            for wish in (("one", ("ann", 0, 0), ("bob", 0, 0)), ("two", ("ann", 0, 1), ("bob", 0, 1)), ("ahead", ("bob", 0), ("bob", 0))):
                answer = could(books, [ONE, wish])
                self.assertTrue(naive_several.is_never(books, [ONE, wish], answer))

    def test_too_many_is_nothing_to_judges(self):
        books = {"ann": [walk("a x", "p 1")], "bob": [listed("p q", "b", "q") for _ in range(8)]}
        self.assertIs(is_barred(books, [ONE], None), False)
        self.assertIs(is_barred(books, [ONE], ("never", (("put", 0),), ("ring", ()))), False)
        self.assertIs(fits(books, could(books, [])[1]), True)


class WishTest(SeveralCase):
    BOOKS = {
        "ann": [meet("a", "p", 1, "met"), walk("a b", "p q"), ("met", "a", 2)],
        "bob": [("met", "p", 1), meet("p", "a", 2, "met"), row("b", PART, "came", "q", None)],
    }

    def test_one_and_two(self):
        self.check_known("yes", self.BOOKS, ("one", ("ann", 0, 1), ("bob", 0, 0)))
        self.check_known("yes", self.BOOKS, ("one", ("ann", 1, 2), ("bob", 2, 1)))
        self.check_known("no", self.BOOKS, ("one", ("ann", 0, 0), ("bob", 0, 0)))
        self.check_known("yes", self.BOOKS, ("two", ("ann", 1, 1), ("ann", 1, 2)))
        self.check_known("no", self.BOOKS, ("two", ("ann", 1, 1), ("ann", 0, 1)))
        books = {"ann": [walk("a", "p")], "bob": [walk("b", "q")]}
        for one in naive_several.places(books):
            for other in naive_several.places(books):
                same = one == other or {one[2], other[2]} == {0} and one[0] == other[0]
                never = one[0] == other[0] or {one[2], other[2]} == {0}
                self.check_known("yes" if same else "no" if never else "open", books, ("one", one, other))

    def test_the_same_place_twice(self):
        for place in naive_several.places(self.BOOKS):
            self.check_known("yes", self.BOOKS, ("one", place, place))
            self.check_could("same", self.BOOKS, ("two", place, place))
            self.check_judge(True, self.BOOKS, [("two", place, place)], ("never", (), ("same", 0)))

    def test_words_at_moments(self):
        for wish, wanted in (
            (("lives", ("ann", 0, 0), "a", ("ann", 1)), "yes"), (("lives", ("bob", 0, 0), "b", ("bob", 1)), "yes"),
            (("lives", ("bob", 0, 0), "b", ("bob", 0)), "open"), (("lacks", ("ann", 0, 0), "a", ("bob", 2)), "open"), (("lives", ("bob", 0, 0), "b", ("bob", 2)), "yes"),
            (("lives", ("ann", 1, 1), "b", ("ann", 2)), "yes"), (("lives", ("ann", 0, 0), "z", ("bob", 0)), "open"),
            (("lacks", ("bob", 2, 1), "q", ("bob", 2)), "no"), (("lives", ("ann", 1, 2), "q", ("ann", 1)), "yes"),
        ):
            self.check_known(wanted, self.BOOKS, wish)
        books = {"ann": [listed("a b"), walk("", ""), listed("b"), walk("", "")], "bob": [walk("", "")]}
        kinds = {"y": "yes", "n": "no", "o": "open"}
        for word, found in (("a", "yonn"), ("b", "yyyo"), ("c", "nono")):
            for at, kind in enumerate(found):
                self.check_known(kinds[kind], books, ("lives", ("ann", 0, 0), word, ("ann", at)))
            self.check_known("open", books, ("lives", ("ann", 0, 0), word, ("bob", 0)))

    def test_moments(self):
        for wish, wanted in (
            (("ahead", ("ann", 0), ("ann", 1)), "yes"), (("ahead", ("ann", 2), ("ann", 1)), "no"), (("ahead", ("ann", 0), ("bob", 2)), "yes"),
            (("ahead", ("bob", 2), ("ann", 1)), "no"), (("ahead", ("ann", 1), ("bob", 1)), "yes"), (("ahead", ("bob", 0), ("ann", 1)), "yes"),
            (("ahead", ("bob", 2), ("ann", 0)), "no"),
        ):
            self.check_known(wanted, self.BOOKS, wish)
        # Only the part letter of bob tells that the walk of ann came ahead of it.
        books = {"ann": self.BOOKS["ann"][:2], "bob": [self.BOOKS["bob"][0], self.BOOKS["bob"][2]]}
        self.check_known("yes", books, ("ahead", ("ann", 1), ("bob", 1)))
        books["bob"][1] = walk("b", "q")
        self.check_known("open", books, ("ahead", ("ann", 1), ("bob", 1)))

    def test_rows_of_one_moment(self):
        for one, two in ((("ann", 0), ("bob", 0)), (("bob", 1), ("ann", 2)), (("ann", 1), ("ann", 1)), (("bob", 2), ("bob", 2))):
            self.check_could("ring", self.BOOKS, ("ahead", one, two))
            self.check_known("clash", self.BOOKS, ("ahead", one, two))
            ring = ("ring", ((one, two, ("wish", 0)),))
            self.check_judge(True, self.BOOKS, [("ahead", one, two)], ("never", (), ring))
            self.check_judge(False, self.BOOKS, [("ahead", ("ann", 0), ("ann", 1))], ("never", (), ring))

    def test_books_that_no_history_fits(self):
        books = {"ann": [walk("a", "p"), walk("a", "q")], "bob": [walk("", "")]}
        for wish in (
            ("one", ("ann", 0, 0), ("ann", 0, 1)), ("one", ("bob", 0, 0), ("bob", 0, 0)), ("lives", ("bob", 0, 0), "a", ("bob", 0)),
            ("ahead", ("ann", 0), ("bob", 0)), ("two", ("ann", 0, 1), ("ann", 1, 1)),
        ):
            self.check_known("clash", books, wish)

    def test_several_wishes(self):
        books = {"ann": [walk("a", "p"), walk("b", "q")], "bob": [walk("c", "r"), walk("d", "s")]}
        ones = [("one", ("ann", 0, 1), ("bob", 0, 1)), ("one", ("ann", 1, 1), ("bob", 1, 1)), ("one", ("ann", 0, 1), ("ann", 1, 1))]
        self.check_could("history", books, *ones)
        self.check_could("same", books, *ones, ("two", ("bob", 0, 1), ("bob", 1, 1)))
        self.check_could("history", books, *ones[:2], ("two", ("bob", 0, 1), ("bob", 1, 1)))
        six = ones + [("lives", ("ann", 0, 0), "z", ("bob", 1)), ("lacks", ("ann", 0, 0), "z", ("bob", 0)), ("ahead", ("bob", 0), ("bob", 1))]
        self.check_could("history", books, *six)
        self.check_could("choice", books, six[3], six[4], ("lives", ("ann", 0, 0), "z", ("ann", 0)), ("ahead", ("ann", 0), ("bob", 0)))
        self.check_could("choice", books, ("lives", ("ann", 0, 0), "z", ("bob", 1)), ("lacks", ("ann", 1, 0), "z", ("bob", 1)))
        self.check_could("history", books)

    def test_a_word_that_only_wishes_speak_of(self):
        books = {"ann": [walk("", ""), listed("")], "bob": [walk("", ""), walk("", "")]}
        self.check_could("history", books, ("lives", ("ann", 0, 0), "a", ("ann", 0)), ("lives", ("bob", 0, 0), "a", ("ann", 0)))
        self.check_could("choice", books, ("lives", ("ann", 0, 0), "a", ("ann", 1)))
        self.check_could("choice", books, *[("lives", ("ann", 0, 0), "a", ("bob", at)) for at in (0, 1)], *[
            ("ahead", ("bob", 0), ("ann", 1)), ("ahead", ("ann", 1), ("bob", 1)),
        ])


class TogetherTest(SeveralCase):
    """What several books show together, and what stays known."""

    def test_what_none_of_them_shows_alone(self):
        # Ann met bob, and bob went on to ann's second neighbour.
        books = {"ann": [meet("a", "p", 1, "met"), meet("b", "q", 2, "met")], "bob": [("met", "p", 1), ("met", "q", 2)]}
        self.check_known("yes", books, ("one", ("ann", 0, 1), ("ann", 1, 1)))
        self.check_known("open", {"ann": books["ann"], "bob": []}, ("one", ("ann", 0, 1), ("ann", 1, 1)))
        # If bob's book has no row of the second letter, it was not bob whom it met.
        self.check_known("no", {"ann": books["ann"], "bob": books["bob"][:1]}, ("one", ("ann", 0, 1), ("ann", 1, 1)))
        books = {"ann": [meet("a", "p", 1, "met"), meet("b", "q", 2, "met")], "bob": [("met", "p", 1)], "cat": [("met", "q", 2)]}
        self.check_known("no", books, ("one", ("ann", 0, 1), ("ann", 1, 1)))

    def test_what_is_known_stays_known(self):
        many = 0
        for number in range(60):
            books, dice = played(shared_history(number, 4 + number % 5)), Dice(number)
            if not naive_several.rows(books):
                continue
            wish = some_wishes(dice, naive_several.places(books), list(naive_several.rows(books)), 1)[0]
            answer = known(books, wish)[0]
            if answer in ("open", "clash"):
                continue
            more = {name: list(books[name]) for name in books}
            more["zoe"] = [walk("a", "b"), ("met", "c", 77777)]
            if len(more) <= 4:
                self.assertEqual(known(more, wish)[0], answer)
                many += 1
            more["bob"].append(walk("", ""))
            self.assertEqual(known(more, wish)[0], answer)
        self.assertGreater(many, 10)


class ManyBooksTest(SeveralCase):
    def check_wishes(self, books, wishes):
        """The answer is that of a slow search, or of a slow judge; returns its kind."""
        try:
            answer = could(books, wishes)
        except TooMany as error:
            self.assertEqual(error.many, naive_several.open_pairs(books, wishes))
            self.assertGreater(error.many, 6)
            return "many"
        self.assertEqual(answer[0] == "history", slow.Search(books).is_possible(*wishes))
        if answer[0] == "history":
            check_fitting(self, books, answer[1], wishes)
            self.assertLessEqual(naive_several.open_pairs(books, wishes), 6)
            return "history"
        self.assertTrue(naive_several.is_never(books, wishes, answer))
        self.assertIs(is_barred(books, wishes, answer), True)
        return answer[2][0]

    def check_changed(self, books, wishes, dice, every):
        """The judge agrees with a slow one about answers that differ a little."""
        try:
            answer = could(books, wishes)
        except TooMany:
            return
        if answer[0] == "never":
            for thing in changed(answer)[dice.throw(every)::every]:
                self.assertIs(is_barred(books, wishes, thing), naive_several.is_never(books, wishes, thing), thing)

    def test_books_that_were_played(self):
        for number in range(70):
            history, dice = shared_history(number, 4 + number % 4), Dice(number)
            books = played(history)
            rows, places = list(naive_several.rows(books)), naive_several.places(books)
            if not rows or len(places) > 11:
                continue
            self.assertIs(fits(books, history), True)
            self.assertEqual(self.check_wishes(books, []), "history")
            for many in range(1, 5):
                self.check_wishes(books, some_wishes(dice, places, rows, many))
            for wish in some_wishes(dice, places, rows, 2):
                answer = known(books, wish)[0]
                kinds = ("open", "yes") if is_true(history, books, wish) else ("open", "no")
                if wish[0] == "ahead":
                    kinds += ("clash",) if naive_several.moment(books, wish[1]) == naive_several.moment(books, wish[2]) else ()
                self.assertIn(answer, kinds)

    def test_books_that_were_changed(self):
        found = {}
        for number in range(120):
            books, dice = played(shared_history(number, 4 + number % 4)), Dice(number)
            for name in list(books)[:1 + number % 2]:
                books[name] = changed_book(number, books[name])
            places = naive_several.places(books)
            if places and len(places) <= 11 and not self.has_bad_signs(books):
                kind = self.check_wishes(books, some_wishes(dice, places, list(naive_several.rows(books)), number % 3))
                found[kind] = found.get(kind, 0) + 1
        self.assertGreater(found["history"], 10)
        self.assertGreater(len(found), 4)

    def has_bad_signs(self, books):
        """Whether the books are not valid beside each other."""
        try:
            fits(books, None)
        except NoBook:
            return True
        return False

    def test_neighbours(self):
        found = {}
        for number in range(110):
            books, one = neighbours_books(number, 3 + number % 3)
            dice = Dice(number)
            rows = list(naive_several.rows(books))
            wishes = [one] + some_wishes(dice, [("ann", 0, 1), ("bob", 0, 1)], rows, number % 4)
            kind = self.check_wishes(books, wishes)
            found[kind] = found.get(kind, 0) + 1
            self.check_changed(books, wishes, dice, 97)
        self.assertGreater(found["choice"], 5)
        self.assertGreater(found["history"], 5)
        self.assertGreater(found["ring"], 5)

    def test_much_to_choose(self):
        found, branching = {}, 0
        for number in range(150):
            books, wishes = between_books(number)
            kind = self.check_wishes(books, wishes)
            found[kind] = found.get(kind, 0) + 1
            if kind == "choice":
                tree = could(books, wishes)[2]
                branching += tree[3][0] == tree[4][0] == "choice"
                self.check_changed(books, wishes, Dice(number), 149)
        self.assertGreater(found["history"], 10)
        self.assertGreater(branching, 5)

    def test_answers_that_differ_a_little(self):
        for number in range(60):
            books, dice = played(shared_history(number, 5)), Dice(number)
            places = naive_several.places(books)
            if places:
                self.check_changed(books, some_wishes(dice, places, list(naive_several.rows(books)), 3), dice, 17)


class FitsTest(SeveralCase):
    BOOKS = {"ann": [walk("a", "p"), meet("a", "p", 1, "met")], "bob": [("met", "p", 1)], "cat": []}
    EVENTS = (born(0, "a", 1, "p"), letter("ann", "a", *WALK), letter("ann", "a", "meet", 1))
    HISTORY = (3, (("cat", 2), ("ann", 0), ("bob", 1)), EVENTS)

    def test_histories_that_fit(self):
        people, owners, events = self.HISTORY
        for history in (
            self.HISTORY, could(self.BOOKS, [])[1], (9, owners, events), (9, owners + (("zoe", 7),), events + (letter("zoe", "", *WALK),)),
            (people, owners[::-1], events), (9, owners + (("zoe", 7),), events + (letter("zoe", "", *WALK), calm("zoe", 0))),
            (4, owners, (born(3, "a", 1, "z"), gone(1, "z")) + events),
        ):
            self.assertIs(fits(self.BOOKS, history), True)
        self.assertIs(fits({"ann": [], "bob": []}, (2, (("ann", 0), ("bob", 1)), ())), True)

    def test_histories_that_do_not_fit(self):
        people, owners, events = self.HISTORY
        for history in (
            (people, owners, events[:-1]), (people, owners[1:], events), (people, owners, events + (letter("cat", "", *WALK),)),
            (people, owners, events + (letter("bob", "", *WALK),)), (people, owners, (events[0], events[2], events[1])),
            (2, owners, events), (people, owners, events + (None,)), (people, owners, events[1:]), (people, owners[:1] + owners[2:], ()),
            (people, owners, events + (calm("ann", 0),)), (people, list(owners), events), ("history", self.HISTORY), (self.HISTORY,),
            (True, owners, events), (people, (("cat", 2), ("ann", False), ("bob", 1)), events),
        ):
            self.assertIs(fits(self.BOOKS, history), False)
        for value in strange_values():
            for thing in (value, (value, owners, events), (people, value, events), (people, owners, value), (people, owners, events + (value,))):
                if thing[:1] != (10 ** 4299,) if isinstance(thing, tuple) else True:
                    self.assertIs(fits(self.BOOKS, thing), False)


if __name__ == "__main__":
    unittest.main()
