"""Promises 2, 4 and 16: the judges of what an owner can know of the people of a book."""

import unittest

from ownwords.errors import NoBook, NoPlace
from ownwords.histories import person_at, played
from ownwords.judges import is_never, is_one, is_open, is_two
from ownwords.verdicts import could_be, who
from ownwords.worlds import history_of

from tests import naive
from tests.helper import (
    PART, TIE, WALK, born, calm, changed, deep_list, deep_tuple, gone, letter, listed, lost, row, shown, strange_values, walk,
)
from tests.naive_trees import is_clash
from tests.plays import Dice, some_history

LEFT = row("a", ("leave", 1), "came", "p", None)
FOUND = row("b", ("look", 1), "came", "q", True)
MISSED = row("b", ("look", 1), "came", "q", False)
JUDGES = {"one": is_one, "two": is_two, "open": is_open}


def slow_after(book, pairs, steps):
    """The lots after these steps, or None; any values are looked at."""
    possible = [shown(step) for step in naive.all_steps(book, pairs)]
    if not isinstance(steps, tuple) or not all(shown(step) in possible for step in steps):
        return None
    return naive.after(book, pairs, steps)


def slow_judge(book, pairs, word, thing):
    """Whether this is a valid answer with this word and a clash."""
    if not isinstance(thing, tuple) or len(thing) != 3 or thing[0] != word:
        return False
    lots = slow_after(book, pairs, thing[1])
    return lots is not None and is_clash(book, lots, thing[2])


def slow_is_one(book, one, other, thing):
    """Whether this is a valid answer that the places are one."""
    if not isinstance(thing, tuple) or len(thing) != 2 or thing[0] != "one":
        return False
    lots = slow_after(book, (), thing[1])
    return lots is not None and lots[one] == lots[other]


class JudgeCase(unittest.TestCase):
    def check_alone(self, book, one, other, answer):
        """The judge of this answer lets it by, and no other one does."""
        for word, judge in JUDGES.items():
            self.assertIs(judge(book, one, other, answer), word == answer[0], (word, answer))
        self.assertIs(is_never(book, [(one, other)], answer), False)

    def check_changed(self, book, one, other, answer, every=1):
        """The judges agree with the slow ones about answers that differ a little from this one."""
        for thing in changed(answer)[::every]:
            self.assertIs(is_one(book, one, other, thing), slow_is_one(book, one, other, thing), thing)
            self.assertIs(is_two(book, one, other, thing), slow_judge(book, [(one, other)], "two", thing), thing)


class OneTest(JudgeCase):
    BOOK = [LEFT, FOUND, walk("a c", "p d"), walk("b c", "q d")]

    def test_answers_of_who(self):
        for one in naive.places(self.BOOK):
            for other in naive.places(self.BOOK):
                answer = who(self.BOOK, one, other)
                self.check_alone(self.BOOK, one, other, answer)
                if answer[0] == "one":
                    self.check_changed(self.BOOK, one, other, answer, 1 if (one, other) == ((2, 2), (3, 2)) else 19)

    def test_steps_that_the_program_does_not_take(self):
        places, tie = ((2, 2), (3, 2)), ("tie", (2, 2, 0), (3, 2, 0))
        more = (("look", 1), ("tie", (0, 1, 0), (2, 1, 0)), ("tie", (1, 1, 0), (3, 1, 0)), tie)
        for steps in (
            more, (("tie", (3, 1, 0), (1, 1, 0)), ("tie", (2, 1, 0), (0, 1, 0)), ("look", 1), ("tie", (3, 2, 0), (2, 2, 0))),
            more + more, (("look", 1), ("look", 1)) + more, more + (("tie", (0, 1, 0), (2, 1, 0)),) * 9,
        ):
            self.assertIs(is_one(self.BOOK, *places, ("one", steps)), True)
            self.assertIs(is_one(self.BOOK, *places[::-1], ("one", steps)), True)
        for steps in (more[:3], more[1:], more[:1] + more[2:], (tie,) + more[:3], ()):
            self.assertIs(is_one(self.BOOK, *places, ("one", steps)), False)

    def test_the_same_place_twice(self):
        for book in (self.BOOK, [walk("a", "b"), walk("a", "c")], [("met", "a", 1)], [walk("", ""), ("calm", 0)]):
            for place in naive.places(book):
                self.assertIs(is_one(book, place, place, ("one", ())), True)
        self.assertIs(is_one(self.BOOK, (0, 1), (0, 1), ("one", (("look", 1),))), True)
        self.assertIs(is_one(self.BOOK, (0, 1), (0, 1), ("one", (("look", 0),))), False)
        self.assertIs(is_one(self.BOOK, (0, 1), (0, 1), ("one", [])), False)

    def test_no_step_is_a_put(self):
        for steps in ((("put", 0),), (("look", 1), ("put", 0)), (("put", 1),)):
            self.assertIs(is_one(self.BOOK, (0, 1), (1, 1), ("one", steps)), False)
        self.assertIs(is_one(self.BOOK, (0, 1), (1, 1), ("one", (("look", 1),))), True)

    def test_books_without_a_history(self):
        book = [walk("a", "b"), walk("a", "c")]
        self.assertIs(is_one(book, (0, 1), (1, 1), ("one", (("tie", (0, 1, 0), (1, 1, 0)),))), True)
        self.assertIs(is_one(book, (0, 1), (1, 1), ("one", ())), False)


class TwoTest(JudgeCase):
    BOOK = [walk("a x y", "p 1 2"), walk("b x y", "q 1 3"), LEFT, MISSED]

    def test_answers_of_who(self):
        for one in naive.places(self.BOOK):
            for other in naive.places(self.BOOK):
                answer = who(self.BOOK, one, other)
                self.check_alone(self.BOOK, one, other, answer)
                if answer[0] == "two":
                    self.check_changed(self.BOOK, one, other, answer, 1 if (one, other) == ((0, 1), (1, 1)) else 19)

    def test_papers_that_the_program_does_not_tell(self):
        places = ((0, 1), (1, 1))
        steps, clash = (("put", 0), ("tie", (1, 2, 0), (0, 2, 0))), ("words", (0, 3, 0), (1, 3, 0))
        turned = ("words", (1, 3, 0), (0, 3, 0))
        for paper in (
            (steps, clash), (steps, turned), (steps + steps, clash), ((("put", 0),) * 3 + steps, clash),
            ((("tie", (0, 1, 0), (2, 1, 0)),) + steps, turned), (steps, ("life", (0, 2), "y")),
            ((("put", 0), ("tie", (2, 1, 0), (0, 1, 0)), ("tie", (1, 1, 0), (3, 1, 0))), ("apart", 3)),
        ):
            wanted = paper[1][0] != "life"
            self.assertIs(is_two(self.BOOK, *places, ("two",) + paper), wanted, paper)
            self.assertIs(is_two(self.BOOK, *places[::-1], ("two",) + paper), wanted, paper)
        for paper in (
            (steps[:1], clash), (steps[1:], clash), (steps[::-1], clash), (steps, ("words", (0, 3, 1), (1, 3, 1))), (steps, None),
            ((), ("apart", 3)), ((("put", 1),) + steps, clash), (steps, ("words", (0, 3, 0), (0, 3, 0))), (clash, steps),
        ):
            self.assertIs(is_two(self.BOOK, *places, ("two",) + paper), False, paper)

    def test_books_without_a_history(self):
        book = [walk("a", "b"), walk("a", "c")]
        clash = ("words", (0, 1, 0), (1, 1, 0))
        for one in naive.places(book):
            for other in naive.places(book):
                self.assertIs(is_two(book, one, other, ("two", (), clash)), True)

    def test_the_same_place_twice(self):
        self.assertIs(is_two(self.BOOK, (0, 1), (0, 1), ("two", (("put", 0),), ("loop", (0, 1)))), False)
        self.assertIs(is_two(self.BOOK, (0, 0), (0, 1), ("two", (("put", 0),), ("loop", (0, 1)))), True)

    def test_calm_rows(self):
        # Where the tie that was made is still there at the next row, its word cannot be lost there; later it may have ended.
        book = [row("a", TIE, "came", "p", ("u", "v")), walk("b", "q"), lost("b v", "q")]
        paper = ("two", (("put", 0), ("tie", (1, 1, 0), (2, 1, 0))), ("life", (0, 1), "v"))
        self.assertIs(is_two(book, (0, 1), (1, 1), paper), False)
        self.assertIs(is_two(book + [("calm", 0)], (0, 1), (1, 1), paper), False)
        paper = ("two", (("put", 0),), ("life", (0, 1), "v"))
        book = [row("a", TIE, "came", "p", ("u", "v")), lost("b v", "q")]
        self.assertIs(is_two(book, (0, 1), (1, 1), paper), False)
        self.assertIs(is_two(book + [("calm", 0)], (0, 1), (1, 1), paper), True)
        self.assertIs(is_two(book + [("calm", 1)], (0, 1), (1, 1), paper), False)
        book = [row("a", PART, "came", "p", None), listed("p q", "b", "q"), ("calm", 0)]
        self.assertIs(is_two(book, (0, 1), (1, 1), ("two", (("put", 0),), ("life", (1, 1), "p"))), True)
        self.assertIs(is_two(book[:2], (0, 1), (1, 1), ("two", (("put", 0),), ("life", (1, 1), "p"))), True)
        self.assertIs(is_one(book, (0, 0), (2, 0), ("one", ())), True)


class OpenTest(JudgeCase):
    BOOK = [walk("a", "p"), walk("b", "q")]
    ONE = (2, (("me", 0),), (born(0, "a", 1, "p"), born(0, "b", 1, "q"), letter("me", "a", *WALK), letter("me", "b", *WALK)))
    TWO = (3, (("me", 0),), (born(0, "a", 1, "p"), born(0, "b", 2, "q"), letter("me", "a", *WALK), letter("me", "b", *WALK)))

    def test_answers_of_who(self):
        for one in naive.places(self.BOOK):
            for other in naive.places(self.BOOK):
                self.check_alone(self.BOOK, one, other, who(self.BOOK, one, other))

    def test_any_two_histories(self):
        people, owners, events = self.ONE
        many = (99, owners + (("you", 70), ("me" * 4, 3)), (born(4, "z", 3, "y"),) + events + (gone(3, "y"), letter("you", "", *WALK)))
        turned = (3, (("me", 2),), (born(1, "p", 2, "a"), letter("me", "a", *WALK), born(2, "b", 1, "q"), letter("me", "b", *WALK)))
        told = who(self.BOOK, (0, 1), (1, 1))
        for first in (self.ONE, many, turned, told[1]):
            for second in (self.TWO, told[2], history_of(self.BOOK)[1]):
                self.assertIs(is_open(self.BOOK, (0, 1), (1, 1), ("open", first, second)), True)
                self.assertIs(is_open(self.BOOK, (0, 1), (1, 1), ("open", second, first)), False)
                self.assertIs(is_open(self.BOOK, (0, 1), (1, 1), ("open", first, first)), False)
                self.assertIs(is_open(self.BOOK, (0, 1), (1, 1), ("open", second, second)), False)
                self.assertIs(is_open(self.BOOK, (0, 0), (1, 0), ("open", first, second)), False)

    def test_one_condition_alone(self):
        people, owners, events = self.TWO
        for other in (
            (people, owners, events[:-1]), (people, owners, events + (letter("me", "", *WALK),)), (people, (("you", 0),), ()),
            (people, owners, events + (gone(1, "z"),)), (2, owners, events), None, (), [people, owners, events],
        ):
            self.assertIs(is_open(self.BOOK, (0, 1), (1, 1), ("open", self.ONE, other)), False)
            self.assertIs(is_open(self.BOOK, (0, 1), (1, 1), ("open", other, self.TWO)), False)
        for thing in (
            ("open", self.ONE), ("open", self.ONE, self.TWO, ()), ["open", self.ONE, self.TWO], (self.ONE, self.TWO),
            ("one", self.ONE, self.TWO), ("history", self.ONE, self.TWO),
        ):
            self.assertIs(is_open(self.BOOK, (0, 1), (1, 1), thing), False)

    def test_calm_rows(self):
        book = self.BOOK + [("calm", 0)]
        told = (calm("me", 0),)
        one, two = self.ONE[:2] + (self.ONE[2] + told,), self.TWO[:2] + (self.TWO[2] + told,)
        self.assertIs(is_open(book, (0, 1), (1, 1), ("open", one, two)), True)
        self.assertIs(is_open(book, (0, 1), (1, 1), ("open", two, one)), False)
        self.assertIs(is_open(book, (0, 1), (1, 1), ("open", self.ONE, two)), False)
        self.assertIs(is_open(book, (0, 1), (1, 1), ("open", one, self.TWO)), False)

    def test_books_without_a_history(self):
        book = [walk("a", "p"), walk("a", "q")]
        self.assertIs(is_open(book, (0, 1), (1, 1), ("open", self.ONE, self.TWO)), False)


class NeverTest(JudgeCase):
    BOOK = [walk("a x y", "p 1 2"), walk("b x y", "q 1 3"), LEFT, MISSED]

    def test_answers_of_could_be(self):
        dice = Dice(5)
        places = naive.places(self.BOOK)
        for _ in range(60):
            pairs = [(dice.pick(places), dice.pick(places)) for _ in range(dice.throw(4))]
            answer = could_be(self.BOOK, pairs)
            self.assertIs(is_never(self.BOOK, pairs, answer), answer[0] == "never")
            self.assertIs(is_never(self.BOOK, tuple(pairs), answer), answer[0] == "never")
            if answer[0] == "never":
                self.assertIs(is_never(self.BOOK, [], answer), False)
                self.assertIs(is_never(self.BOOK, pairs, ("two",) + answer[1:]), False)
                for thing in changed(answer)[::23]:
                    self.assertIs(is_never(self.BOOK, pairs, thing), slow_judge(self.BOOK, pairs, "never", thing), thing)

    def test_pairs_have_numbers(self):
        pairs = [((0, 1), (0, 1)), ((0, 0), (0, 1)), ((0, 1), (1, 1))]
        for number, wanted in ((0, False), (1, True), (2, False), (3, False), (-1, False), (-2, False), (True, False)):
            thing = ("never", (("put", number),), ("loop", (0, 1)))
            self.assertIs(is_never(self.BOOK, pairs, thing), wanted)
        self.assertIs(is_never(self.BOOK, pairs, ("never", (("put", 2), ("put", 1), ("put", 0)), ("loop", (0, 1)))), True)

    def test_books_without_a_history(self):
        book = [walk("a", "b"), walk("a", "c")]
        self.assertIs(is_never(book, [], ("never", (), ("words", (0, 1, 0), (1, 1, 0)))), True)
        self.assertIs(is_never(book, (), ("never", (), ("words", (1, 1, 0), (0, 1, 0)))), True)
        self.assertIs(is_never(book, [], ("never", (), ("loop", (0, 1)))), False)

    def test_the_empty_book(self):
        for thing in (("never", (), ("loop", (0, 1))), ("never", ()), ("never", (), None), None, could_be([], [])):
            self.assertIs(is_never([], [], thing), False)


class ManyBooksTest(JudgeCase):
    def test_books_that_were_played(self):
        for number in range(30):
            history = some_history(number, 3 + number % 4)
            book, dice = played(history)["me"], Dice(number)
            places = naive.places(book)
            for _ in range(4):
                one, other = dice.pick(places), dice.pick(places)
                answer = who(book, one, other)
                self.check_alone(book, one, other, answer)
                if answer[0] != "open":
                    self.check_changed(book, one, other, answer, 13)
                    continue
                same = person_at(history, "me", one) == person_at(history, "me", other)
                pair = ("open", history, answer[2]) if same else ("open", answer[1], history)
                self.assertIs(is_open(book, one, other, pair), True)
                self.assertIs(is_open(book, one, other, ("open",) + pair[:0:-1]), False)


class ErrorsTest(unittest.TestCase):
    BOOK = [walk("a", "b"), lost("c d", "e")]
    # Each judge as a function of a book and of a place that stands first, or behind a right one.
    CALLS = tuple(
        call for judge in (is_one, is_two, is_open) for call in (
            lambda book, place, judge=judge: judge(book, place, None, None),
            lambda book, place, judge=judge: judge(book, (0, 0), place, None),
            lambda book, place, judge=judge: judge(book, (1, 1), place, ("one", ())),
        )
    ) + (
        lambda book, place: is_never(book, [(place, None), None], None),
        lambda book, place: is_never(book, [((0, 0), (1, 1)), ((1, 0), place)], ("never", (), ("loop", (0, 1)))),
        lambda book, place: is_never(book, ((place, (0, 0)),), deep_list()),
    )

    def test_no_book_comes_first(self):
        for call in self.CALLS:
            for book, number in ((None, None), ((), None), ({}, None), ([None], 0), (self.BOOK + [("met", 1, 1)], 2)):
                for place in ((0, 0), None):
                    with self.assertRaises(NoBook) as caught:
                        call(book, place)
                    self.assertEqual((caught.exception.name, caught.exception.row), (None, number))
            for value in strange_values():
                with self.assertRaises(NoBook) as caught:
                    call([walk("", ""), value], (0, 0))
                self.assertEqual(caught.exception.row, 1)

    def test_places_come_next(self):
        wrong = [(0, 2), (1, 2), (9, 0), (-1, 0), (True, 0), (0, True), (0, 0, 0), [0, 0], (deep_tuple(), 0), (0, deep_list())]
        for call in self.CALLS:
            for place in [value for value in strange_values() if value != (0, 0)] + wrong + [(False, 0)]:
                with self.assertRaises(NoPlace) as caught:
                    call(self.BOOK, place)
                self.assertIs(caught.exception.place, place)

    def test_the_first_place_comes_first(self):
        for judge in (is_one, is_two, is_open):
            with self.assertRaises(NoPlace) as caught:
                judge(self.BOOK, (9, 1), (9, 2), None)
            self.assertEqual(caught.exception.place, (9, 1))
        with self.assertRaises(NoPlace) as caught:
            is_never(self.BOOK, [((0, 0), (9, 3)), ((9, 4), (0, 0))], None)
        self.assertEqual(caught.exception.place, (9, 3))

    def test_things_of_all_kinds(self):
        history = history_of(self.BOOK)[1]
        for book in (self.BOOK, self.BOOK + [walk("a", "c")], self.BOOK + [("calm", 0)]):
            for value in strange_values():
                for word, judge in JUDGES.items():
                    for thing in (
                        value, (word, value), (word, value, value), (word, (value,)), (word, (("look", value),), ("loop", (0, 1))),
                        (word, (("tie", value, value),), ("words", value, value)), (value, (), ()), (word, history, value),
                        (word, (), (value, (0, 1))), (word, (), ("life", value, value)), (word, value, history),
                        (word, (), ("keeps", value, value)), (word, (), ("loop", value)), (word, (value, ("put", value))),
                    ):
                        if thing != ("one", ()):
                            self.assertIs(judge(book, (0, 0), (1, 1), thing), False)
                for thing in (value, ("never", value, value), ("never", (value,), value), ("never", (), ("apart", value))):
                    self.assertIs(is_never(book, [((0, 0), (1, 1))], thing), False)


if __name__ == "__main__":
    unittest.main()
