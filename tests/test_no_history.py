"""Promises 3, 5 and 6: what makes a history invalid, and the number of the event that does so."""

import unittest

from ownwords.errors import NoHistory
from ownwords.histories import person_at, played

from tests.helper import WALK, born, calm, gone, letter, strange_values

# Two owners and a third person; every word and number that the tests below need is free or taken as they say.
OWNERS = (("ann", 0), ("bob", 1))
PEOPLE = 4
START = (
    born(0, "a", 1, "b"), born(1, "c", 2, "d"), born(0, "e", 2, "f"), gone(0, "e"),
    letter("ann", "a", "leave", 1), letter("ann", "x", "leave", 2), letter("bob", "b", "leave", 3),
    letter("ann", "a", "meet", 4), letter("ann", "x", "meet", 5), letter("bob", "", "meet", 6),
    letter("bob", "x", "tie", "g", "h"), letter("bob", "", "tie", "i", "j"),
)


class NoHistoryCase(unittest.TestCase):
    def check(self, at, history):
        """Checks that the history is refused with this number, whoever asks."""
        with self.assertRaises(NoHistory) as caught:
            played(history)
        self.assertEqual((type(caught.exception.at), caught.exception.at), (type(at), at))
        with self.assertRaises(NoHistory) as caught:
            person_at(history, "ann", (0, 0))
        self.assertEqual((type(caught.exception.at), caught.exception.at), (type(at), at))

    def check_next(self, event, start=START):
        """Checks that the event is refused after the start."""
        self.check(len(start), (PEOPLE, OWNERS, start + (event,)))

    def check_fits(self, event, start=START):
        """Checks that the event is taken after the start."""
        self.assertEqual(list(played((PEOPLE, OWNERS, start + (event,)))), ["ann", "bob"])


class WholeHistoryTest(NoHistoryCase):
    def test_the_start_is_valid(self):
        played((PEOPLE, OWNERS, START))

    def test_history_is_a_tuple_of_three(self):
        for number, history in enumerate(strange_values() + [
            [1, (), ()], (1, ()), (1, (), (), ()), (1,), "abc", ((1, (), ()),),
        ]):
            with self.subTest(number):
                self.check(None, history)

    def test_people_is_a_whole_number_of_at_least_one(self):
        for number, people in enumerate([0, -1, True, False, None, "1", (1,), [1], -(10 ** 4299), "", ()]):
            with self.subTest(number):
                self.check(None, (people, (), ()))
        for number, people in enumerate(strange_values()):
            if people != 10 ** 4299:
                with self.subTest(("strange", number)):
                    self.check(None, (people, (), ()))

    def test_owners_is_a_tuple_of_pairs(self):
        for number, owners in enumerate([
            [("ann", 0)], "ann", None, 0, True, ("ann", 0), (["ann", 0],), (("ann",),), (("ann", 0, 1),),
            ((0, "ann"),), (("ann", 0), None), (("ann", 0), ()), (("ann", 0), "bb"), ((),), [], "",
        ]):
            with self.subTest(number):
                self.check(None, (3, owners, ()))
        for number, value in enumerate(strange_values()):
            with self.subTest(("strange", number)):
                self.check(None, (3, (("ann", 0), value), ()))
                if value != ():
                    self.check(None, (3, value, ()))

    def test_names_of_owners(self):
        for number, name in enumerate(strange_values() + [
            "abcdefghi", "a b", "a1", "1", "Ann", "a-", "a\n", "\u00e4", "aB", " a", ("a",), ["a"], 7, "a_b", "\u0430",
        ]):
            with self.subTest(number):
                self.check(None, (3, ((name, 0),), ()))

    def test_persons_of_owners(self):
        for number, person in enumerate(strange_values() + [3, 4, "0", (0,), [0]]):
            with self.subTest(number):
                self.check(None, (3, (("ann", person),), ()))
        self.assertEqual(played((3, (("ann", 2),), ())), {"ann": []})

    def test_names_and_persons_are_distinct(self):
        self.check(None, (3, (("ann", 0), ("ann", 1)), ()))
        self.check(None, (3, (("ann", 0), ("bob", 0)), ()))
        self.check(None, (3, (("ann", 0), ("ann", 0)), ()))
        self.check(None, (3, (("ann", 0), ("bob", 1), ("ann", 2)), ()))
        self.check(None, (3, (("ann", 1), ("bob", 0), ("cat", 1)), ()))

    def test_events_is_a_tuple(self):
        for number, events in enumerate([[], [born(0, "a", 1, "b")], None, 0, True, "", "abc"]):
            with self.subTest(number):
                self.check(None, (2, (), events))
        for number, events in enumerate(strange_values()):
            if not isinstance(events, tuple):
                with self.subTest(("strange", number)):
                    self.check(None, (2, (), events))

    def test_what_is_wrong_around_the_events_comes_first(self):
        self.check(None, (0, (), (None,)))
        self.check(None, (2, (("ann", 2),), (None,)))
        self.check(None, (2, (("ann", 2),), [None]))


class EventTest(NoHistoryCase):
    def test_the_first_invalid_event_counts(self):
        good, bad = letter("ann", "", *WALK), letter("ann", "", "run")
        used = born(0, "a", 1, "b")
        self.check(0, (PEOPLE, OWNERS, (bad,)))
        self.check(0, (PEOPLE, OWNERS, (bad, bad)))
        self.check(1, (PEOPLE, OWNERS, (good, bad, good, bad)))
        self.check(2, (PEOPLE, OWNERS, (good, good, bad)))
        # A form that is wrong later does not come before a requirement that is not met earlier.
        self.check(1, (PEOPLE, OWNERS, (used, used, None)))
        self.check(1, (PEOPLE, OWNERS, (used, None, used)))
        self.check(3, (PEOPLE, OWNERS, (used, good, good, used, gone(3, "z"), used)))

    def test_later_events_do_not_help(self):
        self.check(0, (PEOPLE, OWNERS, (gone(0, "a"), born(0, "a", 1, "b"))))
        self.check(0, (PEOPLE, OWNERS, (calm("ann", 0), letter("ann", "", *WALK))))

    def test_events_of_other_kinds(self):
        for number, event in enumerate(strange_values() + [
            "born", ["born", 0, "p", 3, "q"], list(letter("ann", "", *WALK)), ("walk",), ("died", 0, "a"),
            ("Born", 0, "p", 3, "q"), ("letter", "ann", ()), ("letters", "ann", (), WALK), (("calm",), "ann", 0),
            ("gone", 0, "a", 1, "b"), ("born", 0, "p"), ("calm", "ann", (), WALK), ("letter", "ann", 0),
        ]):
            with self.subTest(number):
                self.check_next(event)

    def test_each_field_of_each_kind(self):
        """Puts every strange value into each place of an event that is valid without it."""
        for event in (
            born(0, "p", 3, "q"), gone(0, "a"), letter("ann", "a", *WALK), letter("ann", "a", "leave", 7), calm("ann", 3),
        ):
            self.check_fits(event)
            for place in range(len(event)):
                for number, value in enumerate(strange_values()):
                    if value == () and event[place] == ("a",):
                        continue
                    with self.subTest((event, place, number)):
                        self.check_next(event[:place] + (value,) + event[place + 1:])

    def test_too_few_and_too_many_fields(self):
        for event in (born(0, "p", 3, "q"), gone(0, "a"), letter("ann", "a", *WALK), calm("ann", 3)):
            self.check_fits(event)
            self.check_next(event[:-1])
            self.check_next(event + (None,))
            self.check_next(event + ("a",))
            self.check_next(list(event))


class BirthTest(NoHistoryCase):
    def test_people_of_a_birth(self):
        self.check_fits(born(0, "p", 3, "q"))
        self.check_fits(born(3, "p", 0, "p"))
        for one, other in ((0, 0), (3, 3), (4, 0), (0, 4), (-1, 0), (0, -1), (True, 0), (0, True), (False, 2), ("0", 1)):
            with self.subTest((one, other)):
                self.check_next(born(one, "p", other, "q"))

    def test_words_of_a_birth(self):
        for number, word in enumerate([
            "", "abcdefg", "A", "a b", "a-", " a", "a\n", "\u00e9", "\u0665", "\u00b2", 1, None, ("p",), ["p"], "p_", "aB",
        ]):
            with self.subTest(number):
                self.check_next(born(0, word, 3, "q"))
                self.check_next(born(0, "p", 3, word))
        for word in ("abcdef", "123456", "0", "z9"):
            self.check_fits(born(0, word, 3, word))

    def test_words_that_a_person_had(self):
        self.check_next(born(0, "a", 3, "q"))
        self.check_next(born(3, "q", 0, "a"))
        self.check_next(born(1, "b", 3, "q"))
        self.check_next(born(3, "q", 2, "d"))
        self.check_fits(born(0, "b", 3, "a"))
        self.check_fits(born(2, "a", 3, "e"))

    def test_words_of_ties_that_ended(self):
        self.check_next(born(0, "e", 3, "q"))
        self.check_next(born(2, "f", 3, "q"))
        self.check_next(born(0, "e", 2, "f"))
        parted = START + (letter("ann", "a", "part"),)
        self.check_next(born(0, "a", 3, "q"), parted)
        self.check_next(born(3, "q", 1, "b"), parted)

    def test_words_of_ties_that_letters_made(self):
        made = START + (letter("ann", "a c", "tie", "p", "q"),)
        self.check_next(born(0, "p", 3, "r"), made)
        self.check_next(born(2, "q", 3, "r"), made)
        self.check_fits(born(0, "q", 2, "p"), made)

    def test_words_that_letters_did_not_use_up(self):
        self.check_fits(born(1, "g", 2, "h"))
        self.check_fits(born(1, "i", 2, "j"))
        self.check_fits(born(0, "x", 2, "x"))


class EndTest(NoHistoryCase):
    def test_only_living_ties_end(self):
        for person, word in ((0, "a"), (1, "b"), (1, "c"), (2, "d")):
            self.check_fits(gone(person, word))
            self.check_next(gone(person, word), START + (gone(person, word),))
        self.check_next(gone(1, "b"), START + (gone(0, "a"),))
        self.check_next(gone(0, "a"), START + (letter("bob", "b", "part"),))
        for person, word in ((0, "e"), (2, "f"), (0, "b"), (3, "a"), (0, "x"), (4, "a"), (-4, "a"), (False, "a")):
            with self.subTest((person, word)):
                self.check_next(gone(person, word))


class LetterTest(NoHistoryCase):
    def test_names_of_letters(self):
        for name in ("cat", "an", "anna", "Ann", "", "ann ", 0, None, ("ann", 0), ["ann"], ("ann",), "abcdefghi"):
            with self.subTest(name):
                self.check_next(("letter", name, (), WALK))
                self.check_next(("calm", name, 0))

    def test_ways(self):
        for number, way in enumerate([
            ["a"], "a", None, 0, ("a", ""), ("a", "A"), ("a", None), ("abcdefg",), (("a",),), ("a", ["c"]), (1,), (True,),
            ("a", "c", "x", "x", "x", "?"), ("",),
        ]):
            with self.subTest(number):
                self.check_next(("letter", "ann", way, WALK))
        self.check_fits(letter("ann", "a c d b a c d b", *WALK))

    def test_errands(self):
        for number, errand in enumerate(strange_values() + [
            "walk", ["walk"], ("Walk",), ("run",), ("walk", 1), ("walk", None), ("list", 1), ("list", ()), ("part", 1),
            ("leave",), ("look",), ("meet",), ("tie",), ("tie", "p"), ("tie", "p", "q", "r"), ("tie", ("p", "q")),
            ("leave", 7, 8), ("look", 7, 8), ("meet", 7, 8), (), ("leave", "7"), ["leave", 7], ["tie", "p", "q"],
            ("met", "p", 7), ("calm", 0), ("walk", "p", "q"), ("leave", "p", "q"), ("self",), (None, "p", "q"),
        ]):
            with self.subTest(number):
                self.check_next(("letter", "ann", ("a",), errand))
                self.check_next(("letter", "ann", ("x",), errand))

    def test_marks_and_signs(self):
        for kind in ("leave", "look", "meet"):
            for number, mark in enumerate([
                -1, 10 ** 30, 10 ** 4299, True, False, None, "1", "", (1,), [1], -(10 ** 30),
            ] + strange_values()):
                with self.subTest((kind, number)):
                    self.check_next(letter("ann", "a", kind, mark))
                    self.check_next(letter("ann", "x", kind, mark))
            self.check_fits(letter("ann", "a", kind, 0))
            self.check_fits(letter("ann", "a", kind, 10 ** 30 - 1))

    def test_marks_that_an_owner_left(self):
        for way in ("a", "x", "", "a c"):
            with self.subTest(way):
                self.check_next(letter("ann", way, "leave", 1))
                self.check_next(letter("ann", way, "leave", 2))
                self.check_fits(letter("ann", way, "leave", 3))
                self.check_fits(letter("ann", way, "leave", 4))
        self.check_next(letter("bob", "", "leave", 3))
        self.check_fits(letter("bob", "", "leave", 1))
        self.check_fits(letter("bob", "", "leave", 2))

    def test_marks_may_be_looked_for_often(self):
        for mark in (1, 2, 3, 4, 99):
            self.check_fits(letter("ann", "a", "look", mark), START + (letter("ann", "a", "look", mark),))
        self.check_fits(letter("ann", "", "leave", 99), START + (letter("ann", "", "look", 99),))

    def test_signs_that_any_owner_met_by(self):
        for name in ("ann", "bob"):
            for sign in (4, 5, 6):
                for way in ("", "x", "a", "b"):
                    with self.subTest((name, sign, way)):
                        self.check_next(letter(name, way, "meet", sign))
            for sign in (1, 2, 3, 7):
                self.check_fits(letter(name, "", "meet", sign))
        # Marks and signs are two things.
        for mark in (4, 5, 6):
            self.check_fits(letter("ann", "", "leave", mark))

    def test_part_must_not_have_an_empty_way(self):
        self.check_next(letter("ann", "", "part"))
        self.check_next(letter("bob", "", "part"))
        self.check_fits(letter("ann", "x", "part"))
        self.check_fits(letter("ann", "a", "part"))

    def test_words_of_a_tie_letter_must_be_words(self):
        for number, word in enumerate(["", "abcdefg", "P", None, 1, True, ("p",), ["p"], "p q", "\u00e9"]):
            for way in ("a", "", "x", "a b"):
                with self.subTest((number, way)):
                    self.check_next(letter("ann", way, "tie", word, "q"))
                    self.check_next(letter("ann", way, "tie", "p", word))

    def test_words_of_a_tie_letter_must_be_new(self):
        self.check_fits(letter("ann", "a", "tie", "p", "q"))
        self.check_fits(letter("ann", "a", "tie", "b", "a"))
        self.check_next(letter("ann", "a", "tie", "a", "q"))
        self.check_next(letter("ann", "a", "tie", "p", "b"))
        self.check_next(letter("ann", "a", "tie", "p", "c"))
        self.check_next(letter("ann", "a", "tie", "e", "q"))
        self.check_next(letter("ann", "a c", "tie", "p", "f"))
        self.check_next(letter("ann", "a c", "tie", "p", "d"))
        made = START + (letter("ann", "a c", "tie", "p", "q"),)
        self.check_next(letter("ann", "a", "tie", "p", "r"), made)
        self.check_next(letter("ann", "p", "tie", "r", "q"), made)
        self.check_fits(letter("ann", "p", "tie", "q", "p"), made)
        self.check_next(letter("bob", "c", "tie", "p", "q"), made)

    def test_words_of_a_tie_letter_that_makes_none(self):
        for way in ("", "a b", "x", "a x"):
            for words in (("a", "b"), ("a", "a"), ("e", "f"), ("p", "q")):
                self.check_fits(letter("ann", way, "tie", *words))


class CalmTest(NoHistoryCase):
    # Ann's rows are 0 to 3 after the start; bob's are 0 to 4, with a met row at 1.

    def test_number_of_a_row(self):
        for number in (0, 1, 2, 3):
            self.check_fits(calm("ann", number))
        for number, value in enumerate([4, 5, -1, -4, 10 ** 30, True, False, None, "0", (0,), [0], (0, 0), ""]):
            with self.subTest(number):
                self.check_next(calm("ann", value))
        self.check(0, (PEOPLE, OWNERS, (calm("ann", 0),)))

    def test_rows_of_the_other_book_do_not_count(self):
        self.check_fits(calm("bob", 4))
        self.check_next(calm("ann", 4))

    def test_met_rows(self):
        self.check_next(calm("bob", 0))
        self.check_next(calm("bob", 1))
        for number in (2, 3, 4):
            self.check_fits(calm("bob", number))
        last = START + (letter("ann", "a", "meet", 9),)
        for number in (0, 1, 2, 3, 4, 5):
            self.check_next(calm("bob", number), last)

    def test_calm_rows_do_not_hide_what_happened(self):
        start = START + (calm("ann", 3), born(0, "p", 3, "q"))
        for number in (0, 3, 4):
            self.check_next(calm("ann", number), start)
        self.check_fits(calm("ann", 5), start + (letter("ann", "", *WALK),))
        self.check_next(calm("ann", 4), start + (letter("ann", "", *WALK),))

    def test_unseen_changes(self):
        for change in (
            born(2, "p", 3, "q"), gone(1, "c"), letter("bob", "b", "tie", "p", "q"), letter("bob", "b", "part"),
            letter("bob", "c d", "part"), letter("bob", "c", "tie", "p", "q"),
        ):
            start = START + (change,)
            for number in (0, 1, 2, 3):
                with self.subTest((change, number)):
                    self.check_next(calm("ann", number), start)
                    self.check_next(calm("ann", number), start + (letter("ann", "", *WALK),))
            self.check_fits(calm("ann", 4), start + (letter("ann", "", *WALK),))

    def test_unseen_changes_that_were_undone(self):
        start = START + (born(0, "p", 3, "q"), gone(0, "p"))
        self.check_next(calm("ann", 3), start)

    def test_unseen_changes_among_own_ones(self):
        own = letter("ann", "a", "tie", "p", "q")
        self.check_fits(calm("ann", 3), START + (own,))
        self.check_fits(calm("ann", 4), START + (own,))
        self.check_next(calm("bob", 4), START + (own,))
        self.check_next(calm("ann", 4), START + (own, gone(0, "p")))
        self.check_next(calm("ann", 4), START + (own, letter("bob", "q", "part")))
        self.check_next(calm("bob", 4), START + (letter("ann", "a", "part"),))


if __name__ == "__main__":
    unittest.main()
