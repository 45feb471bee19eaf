"""Promise 26: sheets."""

import unittest

from ownwords.errors import NoHistory, NoName, NoSheets
from ownwords.histories import person_at, played
from ownwords.sheets import sheeted, shift_of

from tests.helper import WALK, born, calm, deep_list, deep_tuple, gone, letter, strange_values
from tests.plays import WORDS, Dice

RING = (3, (("you", 2), ("me", 0)), (
    born(0, "a", 1, "p"), born(1, "b", 2, "q"), born(2, "c", 0, "r"), letter("me", "", "leave", 1),
    letter("me", "a b", *WALK), letter("me", "a b c", "look", 1), letter("me", "a z", "list"), letter("you", "c", "leave", 1),
))


def restful_history(seed):
    """A history at rest."""
    dice = Dice(seed)
    people = 2 + dice.throw(3)
    events, used, across = [], set(), {}
    for _ in range(dice.throw(30)):
        x, y, u, v = dice.throw(people), dice.throw(people), dice.pick(WORDS), dice.pick(WORDS)
        if x != y and not {(x, u), (y, v)} & used:
            used |= {(x, u), (y, v)}
            across[x, u], across[y, v] = (y, v), (x, u)
            events.append(born(x, u, y, v))
    owners = (("me", people - 1), ("you", 0))
    left = {"me": [77], "you": [77]}
    for number in range(dice.throw(14)):
        name, person = dice.pick(owners)
        way = []
        for _ in range(dice.throw(6)):
            words = [word for other, word in across if other == person]
            way.append(dice.pick(words) if words and dice.throw(9) else dice.pick(WORDS))
            person = across.get((person, way[-1]), (person, None))[0]
        errand = dice.pick((WALK, ("list",), ("leave", number), ("leave", number), ("look", dice.pick(left[name])), ("look", dice.pick(left[name]))))
        if errand[0] == "leave":
            left[name].append(number)
        events.append(("letter", name, tuple(way), errand))
    return people, owners, tuple(events)


def slow_shift(history, k, shifts, name, way):
    """The sum of the shifts along a way."""
    person = dict(history[1])[name]
    total = 0
    for word in way:
        for number, (_, x, u, y, v) in enumerate(history[2][:len(shifts)]):
            if (x, u) == (person, word):
                total, person = total + shifts[number], y
                break
            if (y, v) == (person, word):
                total, person = total + k - shifts[number], x
                break
        else:
            return None
    return total % k


class SheetedTest(unittest.TestCase):
    def test_the_events(self):
        people, owners, events = sheeted(RING, 2, [0, 1, 1])
        self.assertEqual(people, 6)
        self.assertEqual(owners, (("you", 4), ("me", 0)))
        self.assertEqual(events, (
            born(0, "a", 2, "p"), born(1, "a", 3, "p"), born(2, "b", 5, "q"), born(3, "b", 4, "q"), born(4, "c", 1, "r"), born(5, "c", 0, "r"),
        ) + RING[2][3:])
        people, owners, events = sheeted(RING, 3, [2, 0, 1])
        self.assertEqual(events[:3], (born(0, "a", 5, "p"), born(1, "a", 3, "p"), born(2, "a", 4, "p")))
        self.assertEqual(events[6:9], (born(6, "c", 1, "r"), born(7, "c", 2, "r"), born(8, "c", 0, "r")))

    def test_histories_without_births_or_letters(self):
        self.assertEqual(sheeted((1, (), ()), 5, []), (5, (), ()))
        self.assertEqual(sheeted((2, (("me", 1),), (letter("me", "", *WALK),)), 4, []), (8, (("me", 4),), (letter("me", "", *WALK),)))
        self.assertEqual(sheeted((2, (), (born(1, "a", 0, "b"),)), 2, [1]), (4, (), (born(2, "a", 1, "b"), born(3, "a", 0, "b"))))

    def test_only_marks_tell(self):
        for shifts, wanted in (([0, 0, 0], True), ([1, 1, 0], True), ([1, 0, 0], False), ([1, 1, 1], False), ([0, 1, 1], True)):
            books = played(sheeted(RING, 2, shifts))
            first = played(RING)
            self.assertEqual(books["you"], first["you"])
            for number in (0, 1, 3):
                self.assertEqual(books["me"][number], first["me"][number])
            self.assertEqual(books["me"][2][:2], first["me"][2][:2])
            self.assertEqual(books["me"][2][2][2], wanted)
            self.assertEqual(shift_of(RING, 2, shifts, "me", ("a", "b", "c")) == 0, wanted)

    def test_many_histories(self):
        looks = {(True, True): 0, (True, False): 0, (False, False): 0}
        for number in range(400):
            history, dice = restful_history(number), Dice(number)
            births = sum(event[0] == "born" for event in history[2])
            k = 2 + dice.throw(4)
            shifts = [dice.throw(k) for _ in range(births)]
            other = sheeted(history, k, shifts)
            books, told = played(history), played(other)
            for name in books:
                ways_left = {}
                for number_of, (row, there) in enumerate(zip(books[name], told[name])):
                    self.assertEqual(row[:2] + (row[2][:2],), there[:2] + (there[2][:2],))
                    total = shift_of(history, k, shifts, name, row[0])
                    self.assertEqual(total, slow_shift(history, k, shifts, name, row[0]))
                    self.assertEqual(total is None, row[2][0] == "lost")
                    if total is not None:
                        place = (number_of, len(row[0]))
                        self.assertEqual(person_at(other, name, place), k * person_at(history, name, place) + total)
                    if row[1][0] == "leave":
                        ways_left[row[1][1]] = total
                    if row[1][0] == "look" and total is not None:
                        wanted = row[2][2] and total == ways_left[row[1][1]]
                        self.assertIs(there[2][2], wanted)
                        looks[row[2][2], wanted] += 1
                    elif row[2][0] == "came":
                        self.assertEqual(row[2][2], there[2][2])
        self.assertGreater(min(looks.values()), 10)

    def test_sheets_of_sheets(self):
        twice = sheeted(sheeted(RING, 2, [0, 1, 1]), 3, [1, 2, 0, 1, 2, 0])
        self.assertEqual(twice[0], 18)
        self.assertEqual(len(twice[2]), 18 + 5)
        self.assertEqual(set(played(twice)), {"me", "you"})


class ShiftTest(unittest.TestCase):
    def test_ways(self):
        shifts = [1, 3, 4]
        for way, wanted in (
            ("", 0), ("a", 1), ("a b", 4), ("a b c", 3), ("a b c a", 4), ("a p", 0), ("r", 1), ("r q", 3), ("r q p", 2), ("a p r c", 0),
            ("z", None), ("a z", None), ("a b c z a", None), ("r q p r q p", 4),
        ):
            self.assertEqual(shift_of(RING, 5, shifts, "me", tuple(way.split())), wanted)
        self.assertEqual(shift_of(RING, 5, shifts, "you", ("c",)), 4)
        self.assertEqual(shift_of(RING, 5, [0, 0, 0], "me", ("r", "q")), 0)
        self.assertEqual(shift_of(history=RING, k=2, shifts=[1, 0, 1], name="me", way=("a", "b")), 1)


class ErrorsTest(unittest.TestCase):
    CALLS = (lambda history, k, shifts: sheeted(history, k, shifts), lambda history, k, shifts: shift_of(history, k, shifts, None, None))

    def test_no_history_comes_first(self):
        people, owners, events = RING
        for call in self.CALLS:
            for history, at in (
                (None, None), ([people, owners, events], None), ((0, owners, events), None), ((people, owners, list(events)), None),
                ((people, owners, events + (None,)), 8), ((people, owners, events + (gone(0, "z"),)), 8), ((2, (), events), 1),
                ((people, owners, (letter("me", "a", "part"), None)), 1), ((True, owners, ()), None),
            ):
                with self.assertRaises(NoHistory) as caught:
                    call(history, None, None)
                self.assertEqual(caught.exception.at, at)
            for value in strange_values():
                with self.assertRaises(NoHistory) as caught:
                    call((people, owners, events + (value,)), 2, [0, 0, 0])
                self.assertEqual(caught.exception.at, 8)

    def test_events_that_are_not_at_rest(self):
        people, owners, events = RING
        for event in (
            gone(0, "a"), letter("me", "a", "part"), letter("me", "a", "tie", "u", "v"), letter("me", "a", "meet", 5), calm("me", 0),
            born(0, "x", 1, "y"), letter("me", "z", "meet", 5),
        ):
            for call in self.CALLS:
                with self.assertRaises(NoHistory) as caught:
                    call((people, owners, events + (event, gone(1, "b"))), 9, None)
                self.assertEqual(caught.exception.at, 8)
        for call in self.CALLS:
            with self.assertRaises(NoHistory) as caught:
                call((people, owners, events[:2] + (gone(0, "a"), born(2, "c", 0, "r"))), 2, [0, 0])
            self.assertEqual(caught.exception.at, 2)

    def test_no_sheets_comes_next(self):
        good = [0, 1, 1]
        for k in [0, 1, 6, -2, True, False, "2", None, (2,), [2], 10 ** 4299] + strange_values():
            for call in self.CALLS:
                with self.assertRaises(NoSheets) as caught:
                    call(RING, k, good)
                self.assertIs(caught.exception.k, k)
                self.assertIs(caught.exception.shifts, good)
        wrong = [
            [], [0, 0], [0, 0, 0, 0], (0, 0, 0), [0, 0, 2], [0, 0, -1], [0, True, 1], [0, False, 1], [0, None, 1], [0, "1", 1], None, 3,
            [0, [1], 1], [deep_tuple(), 0, 0], [0, 0, deep_list()], {0: 0, 1: 1, 2: 1}, "001",
        ]
        for shifts in wrong + strange_values():
            for call in self.CALLS:
                with self.assertRaises(NoSheets) as caught:
                    call(RING, 2, shifts)
                self.assertEqual(caught.exception.k, 2)
                self.assertIs(caught.exception.shifts, shifts)
        for k in range(2, 6):
            self.assertEqual(sheeted(RING, k, [k - 1] * 3)[0], 3 * k)
            with self.assertRaises(NoSheets):
                sheeted(RING, k, [0, k, 0])

    def test_no_name_comes_last(self):
        for name in ["ann", "", "Me", None, 0, True, ("me",), ["me"]] + strange_values():
            with self.assertRaises(NoName) as caught:
                shift_of(RING, 2, [0, 1, 1], name, ("a",))
            self.assertIs(caught.exception.name, name)
            with self.assertRaises(NoSheets):
                shift_of(RING, 2, [0, 1], name, ("a",))

    def test_arguments_stay_as_they_are(self):
        shifts = [0, 1, 1]
        first = sheeted(history=RING, k=2, shifts=shifts)
        self.assertEqual(shifts, [0, 1, 1])
        shifts[0] = 1
        self.assertEqual(first, sheeted(RING, 2, [0, 1, 1]))
        self.assertNotEqual(first, sheeted(RING, 2, shifts))


if __name__ == "__main__":
    unittest.main()
