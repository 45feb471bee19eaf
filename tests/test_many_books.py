"""Promises 4 and 9 to 15 on many books, held against the words of DOC.md as tests/naive.py works them out."""

import unittest

from ownwords.books import places, ties
from ownwords.clashes import clash_of, fold_paper, is_clash
from ownwords.errors import NoWorld
from ownwords.foldings import are_steps, lots, lots_behind
from ownwords.histories import person_at, played
from ownwords.verdicts import could_be, who, word_at
from ownwords.worlds import history_of, is_history_of

from tests import naive
from tests.checks import check_history, in_use
from tests.plays import WORDS, Dice, changed_book, some_history


def books(numbers, calm=False):
    """Books that were played, each with its number, its history and dice to throw."""
    for number in numbers:
        history = some_history(number, 4 + number % 8, calm)
        yield number, played(history)["me"], history, Dice(number)


def some_steps(dice, book):
    """Steps that are each allowed after the ones before them, but mostly not all there are."""
    found = []
    possible = naive.all_steps(book, ())
    for _ in range(dice.throw(8) if possible else 0):
        step = dice.pick(possible)
        if naive.after(book, (), found + [step]) is not None:
            found.append(step)
    return tuple(found)


class FoldingsAndClashesTest(unittest.TestCase):
    def check_book(self, book, put=()):
        full = naive.fold(book, put)
        self.assertEqual(lots(book, put=put), naive.as_lists(full))
        steps, clash = fold_paper(book, put=put)
        self.assertEqual(naive.as_lists(naive.after(book, put, steps)), naive.as_lists(full))
        self.assertIs(are_steps(book, steps, put=put), True)
        self.assertEqual(lots_behind(book, steps, put=put), lots(book, put=put))
        found = naive.clashes(book, full)
        self.assertEqual(clash, found[0] if found else None)
        self.assertEqual(clash_of(book, put=put), clash)
        for one in found:
            self.assertIs(is_clash(book, steps, one, put=put), True)

    def check_behind(self, book, dice):
        """What is a clash behind some of the steps, and which steps are allowed then."""
        steps = some_steps(dice, book)
        now = naive.after(book, (), steps)
        self.assertEqual(lots_behind(book, steps), naive.as_lists(now))
        self.assertIs(are_steps(book, steps), True)
        for step in naive.all_steps(book, ())[:40]:
            self.assertIs(are_steps(book, steps + (step,)), naive.merged_by(book, (), now, step) is not None)
        found = naive.clashes(book, now)
        ends, rows = list(naive.ends(book)), list(range(len(book)))
        things = [("loop", tie) for tie in ties(book)] + [(kind, r) for kind in ("apart", "unleft") for r in rows]
        things += [("keeps", r, q) for r in rows for q in [None] + rows]
        things += [("words", dice.pick(ends), dice.pick(ends)) for _ in ends] + found
        for thing in things:
            turned = ("words", thing[2], thing[1]) if thing[0] == "words" else thing
            self.assertIs(is_clash(book, steps, thing), thing in found or turned in found)
        for _ in range(20):
            place, word = dice.pick(places(book)), dice.pick(WORDS)
            wanted = naive.is_life_clash(book, now, place, word)
            self.assertIs(is_clash(book, steps, ("life", place, word)), wanted)

    def test_books_that_were_played(self):
        for number, book, history, dice in books(range(40)):
            with self.subTest(number):
                self.check_book(book)
                self.assertIsNone(clash_of(book))
                self.check_book(book, [(dice.pick(places(book)), dice.pick(places(book))) for _ in range(dice.throw(3))])
                self.check_behind(book, dice)

    def test_books_with_calm_rows(self):
        for number, book, history, dice in books(range(100, 130), calm=True):
            with self.subTest(number):
                self.check_book(book)
                self.assertIsNone(clash_of(book))
                self.assertIs(is_history_of(book, history), True)
                self.check_behind(book, dice)
                self.check_book(changed_book(number, book))

    def test_books_that_contradict_themselves(self):
        for number, book, history, dice in books(range(200, 250)):
            with self.subTest(number):
                changed = changed_book(number, book)
                self.check_book(changed)
                self.check_behind(changed, dice)


class HistoriesAndVerdictsTest(unittest.TestCase):
    def check_world(self, book):
        """There is a history if there is no clash."""
        answer = history_of(book)
        clash = clash_of(book)
        if clash is None:
            self.assertEqual((answer[0], len(answer)), ("history", 2))
            check_history(self, book, answer[1])
            return True
        self.assertEqual(answer, ("clash",) + fold_paper(book))
        with self.assertRaises(NoWorld) as caught:
            could_be(book, [])
        self.assertEqual(caught.exception.paper, fold_paper(book))
        return False

    def check_who(self, book, one, other):
        answer = who(book, one, other)
        put = [(one, other)]
        merged = naive.fold(book)
        if merged[one] == merged[other]:
            self.assertEqual((answer[0], len(answer)), ("one", 2))
            now = naive.after(book, (), answer[1])
            self.assertEqual(now[one], now[other])
        elif naive.clashes(book, naive.fold(book, put)):
            self.assertEqual((answer[0], len(answer)), ("two", 3))
            self.assertIn(answer[2], naive.clashes(book, naive.after(book, put, answer[1])))
        else:
            self.assertEqual((answer[0], len(answer)), ("open", 3))
            check_history(self, book, answer[1], put)
            check_history(self, book, answer[2])
        return answer[0]

    def check_pairs(self, book, pairs):
        answer = could_be(book, pairs)
        if naive.clashes(book, naive.fold(book, pairs)):
            self.assertEqual((answer[0], len(answer)), ("never", 3))
            self.assertIn(answer[2], naive.clashes(book, naive.after(book, pairs, answer[1])))
        else:
            self.assertEqual((answer[0], len(answer)), ("history", 2))
            check_history(self, book, answer[1], pairs)

    def check_word(self, book, place, word, row):
        answer = word_at(book, place, word, row)
        self.assertEqual(answer[0], naive.word_answer(book, place, word, row))
        if answer[0] == "open":
            for history, wanted in zip(answer[1:], (True, False)):
                check_history(self, book, history, asked=1)
                self.assertIs(in_use(history, place, word, row), wanted)
        return answer[0]

    def test_books_that_were_played(self):
        for number, book, history, dice in books(range(300, 330)):
            with self.subTest(number):
                self.assertTrue(self.check_world(book))
                for _ in range(6):
                    one, other = dice.pick(places(book)), dice.pick(places(book))
                    kind = self.check_who(book, one, other)
                    same = person_at(history, "me", one) == person_at(history, "me", other)
                    self.assertIn(kind, ("one" if same else "two", "open"))
                    self.check_pairs(book, [(one, other), (dice.pick(places(book)), dice.pick(places(book)))])
                    word, row = dice.pick(WORDS), dice.throw(len(book))
                    kind = self.check_word(book, one, word, row)
                    self.assertIn(kind, ("yes" if in_use(history, one, word, row) else "no", "open"))

    def test_books_that_were_changed(self):
        for number, book, history, dice in books(range(400, 430)):
            changed = changed_book(number, book)
            with self.subTest(number):
                if self.check_world(changed):
                    for _ in range(3):
                        one, other = dice.pick(places(changed)), dice.pick(places(changed))
                        self.check_who(changed, one, other)
                        self.check_pairs(changed, ((one, other),))
                        self.check_word(changed, one, dice.pick(WORDS), dice.throw(len(changed)))


if __name__ == "__main__":
    unittest.main()
