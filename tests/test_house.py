"""Promise 27: a house."""

import unittest

from ownwords.doings import knows
from ownwords.errors import NoHistory, NoName, NoPlace
from ownwords.foldings import lots
from ownwords.histories import played
from ownwords.house import House
from ownwords.verdicts import who

from tests import naive, slow
from tests.helper import WALK, born, calm, deep_list, deep_tuple, gone, letter, strange_values
from tests.plays import Dice, calm_history, shared_history, some_history

OWNERS = (("ann", 0), ("bob", 2))


def filled(history):
    """A house in which this history happened."""
    house = House(history[0], history[1])
    for event in history[2]:
        house.do(event)
    return house


def slow_known(book, one, other):
    """What House.known answers, by a slow search."""
    for number in range(max(one[0], other[0]), len(book)):
        together = [any({one, other} <= group for group in sorting) for sorting in slow.sortings_of(book[:number + 1])]
        if len(set(together)) == 1:
            return ("one" if together[0] else "two", number)
    return ("open",)


class HouseTest(unittest.TestCase):
    def test_events_one_by_one(self):
        house = House(3, OWNERS)
        events = (
            born(0, "a", 1, "b"), letter("ann", "a", "leave", 1), born(2, "c", 0, "d"), letter("bob", "c", "meet", 5), letter("ann", "a", "look", 1),
            calm("ann", 2), gone(0, "a"), letter("ann", "a", *WALK),
        )
        self.assertEqual(house.history(), (3, OWNERS, ()))
        for number, event in enumerate(events):
            self.assertEqual(house.do(event), number + 1)
            history = (3, OWNERS, events[:number + 1])
            self.assertEqual(house.history(), history)
            for name, book in played(history).items():
                self.assertEqual(house.book(name), book)
                self.assertEqual(house.lots(name), lots(book))

    def test_the_answers_are_new(self):
        house = filled((3, OWNERS, (born(0, "a", 1, "b"), letter("ann", "a", *WALK))))
        book, parts = house.book("ann"), house.lots("ann")
        book.append(None)
        parts[0].append(None)
        parts.clear()
        self.assertEqual(house.book("ann"), [(("a",), WALK, ("came", ("b",), None))])
        self.assertEqual(house.lots("ann"), [[(0, 0)], [(0, 1)]])
        first = house.history()
        house.do(letter("ann", "", *WALK))
        self.assertEqual(len(first[2]), 2)
        self.assertEqual(len(house.history()[2]), 3)
        self.assertIs(type(house.history()), tuple)
        self.assertIs(type(house.known("ann", (0, 0), (0, 1))), tuple)

    def test_arguments_by_name(self):
        house = House(owners=OWNERS, people=3)
        self.assertEqual(house.do(event=letter("ann", "", *WALK)), 1)
        self.assertEqual(house.book(name="ann"), house.book("ann"))
        self.assertEqual(house.lots(name="ann"), house.lots("ann"))
        self.assertEqual(house.known(name="ann", one=(0, 0), other=(0, 0)), ("one", 0))

    def test_houses_of_one_person_and_without_owners(self):
        house = House(1, ())
        self.assertEqual(house.history(), (1, (), ()))
        for event in (letter("ann", "", *WALK), born(0, "a", 0, "b"), gone(0, "a"), calm("ann", 0)):
            with self.assertRaises(NoHistory) as caught:
                house.do(event)
            self.assertEqual(caught.exception.at, 0)
        with self.assertRaises(NoName):
            house.book("ann")
        house = House(1, (("ann", 0),))
        self.assertEqual((house.book("ann"), house.lots("ann")), ([], []))
        self.assertEqual(house.do(letter("ann", "", "list")), 1)
        self.assertEqual(house.do(letter("ann", "a", *WALK)), 2)
        self.assertEqual(house.known("ann", (0, 0), (1, 0)), ("one", 1))
        house = House(2, ())
        self.assertEqual(house.do(born(0, "a", 1, "b")), 1)
        self.assertEqual(house.do(gone(1, "b")), 2)

    def test_two_houses(self):
        one, two = House(2, (("ann", 0),)), House(2, (("ann", 0),))
        one.do(letter("ann", "", "leave", 1))
        self.assertEqual(two.history(), (2, (("ann", 0),), ()))
        self.assertEqual(two.do(letter("ann", "", "leave", 1)), 1)

    def test_many_houses(self):
        for number in range(60):
            history = some_history(number, 14, calm=number % 2 == 0)
            house = filled(history)
            self.assertEqual(house.history(), history)
            for name, book in played(history).items():
                self.assertEqual(house.book(name), book)
                self.assertEqual(house.lots(name), naive.as_lists(naive.fold(book)))


class KnownTest(unittest.TestCase):
    def test_since_which_row(self):
        house = House(4, (("ann", 0),))
        for event in (
            born(0, "a", 1, "p"), born(0, "b", 1, "q"), born(0, "c", 2, "r"), letter("ann", "b", *WALK), letter("ann", "a", "leave", 1),
            letter("ann", "", *WALK), letter("ann", "b", "look", 1), letter("ann", "c", *WALK), letter("ann", "c", "look", 1),
        ):
            house.do(event)
        for one, other, wanted in (
            ((0, 1), (1, 1), ("one", 3)), ((1, 1), (0, 1), ("one", 3)), ((1, 1), (3, 1), ("one", 3)), ((0, 0), (0, 1), ("two", 0)),
            ((0, 0), (1, 1), ("two", 1)), ((0, 0), (2, 0), ("one", 2)), ((0, 1), (4, 1), ("two", 5)), ((1, 1), (4, 1), ("two", 5)),
            ((1, 1), (5, 1), ("two", 5)), ((0, 1), (0, 1), ("one", 0)), ((5, 1), (5, 1), ("one", 5)), ((4, 1), (5, 1), ("one", 5)),
        ):
            self.assertEqual(house.known("ann", one, other), wanted)
            self.assertEqual(slow_known(house.book("ann"), one, other), wanted)

    def test_open_ones_get_known(self):
        house = House(3, (("ann", 0),))
        for event in (born(0, "a", 1, "p"), born(0, "b", 2, "q"), letter("ann", "a", "leave", 1), letter("ann", "b", *WALK)):
            house.do(event)
        self.assertEqual(house.known("ann", (0, 1), (1, 1)), ("open",))
        house.do(letter("ann", "b", "look", 1))
        self.assertEqual(house.known("ann", (0, 1), (1, 1)), ("two", 2))
        house.do(letter("ann", "a", *WALK))
        self.assertEqual(house.known("ann", (0, 1), (1, 1)), ("two", 2))

    def test_calm_rows(self):
        house = House(3, (("ann", 0),))
        for event in (
            born(0, "a", 1, "p"), born(0, "b", 1, "q"), born(1, "x", 2, "r"), letter("ann", "a", "list"), letter("ann", "b x", "part"),
            letter("ann", "a", "list"),
        ):
            house.do(event)
        self.assertEqual(house.known("ann", (0, 1), (1, 1)), ("open",))
        house.do(calm("ann", 0))
        self.assertEqual(house.known("ann", (0, 1), (1, 1)), ("one", 3))
        self.assertEqual(house.known("ann", (0, 1), (1, 2)), ("two", 3))

    def check_house(self, history, seed):
        house, dice = filled(history), Dice(seed)
        found = []
        for name, book in played(history).items():
            # House.known is not called for bigger books than the other functions.
            book = book[:7]
            if not book or house.book(name) != book:
                continue
            places = naive.places(book)
            for _ in range(3):
                one, other = dice.pick(places), dice.pick(places)
                answer = house.known(name, one, other)
                found.append(answer[0])
                if answer == ("open",):
                    self.assertEqual(knows(book, one, other)[0], "open")
                    continue
                kind, row = answer
                self.assertIs(type(row), int)
                self.assertGreaterEqual(row, max(one[0], other[0]))
                for end in range(max(one[0], other[0]) + 1, len(book) + 1):
                    wanted = kind if end > row else "open"
                    self.assertEqual(knows(book[:end], one, other)[0], wanted)
                    if not any(told[0] == "calm" for told in book[:end]):
                        self.assertEqual(who(book[:end], one, other)[0], wanted)
        return found

    def test_many_houses(self):
        found = []
        for number in range(60):
            found += self.check_house(some_history(number, 4 + number % 4, calm=number % 2 == 0), number)
            found += self.check_house(shared_history(number, 8), number)
            found += self.check_house(calm_history(number, 6), number)
        self.assertEqual(set(found), {"one", "two", "open"})

    def test_twelve_rows(self):
        house = House(3, (("ann", 0),))
        house.do(born(0, "a", 1, "p"))
        house.do(born(0, "b", 2, "q"))
        for _ in range(6):
            house.do(letter("ann", "a p a p a p a p", *WALK))
            house.do(letter("ann", "b q b q b q b q", *WALK))
        self.assertEqual(house.known("ann", (0, 1), (11, 1)), ("open",))
        self.assertEqual(house.known("ann", (0, 8), (11, 8)), ("one", 11))


class ErrorsTest(unittest.TestCase):
    def test_wrong_people_and_owners(self):
        for people, owners in (
            (0, ()), (-1, ()), (True, ()), ("1", ()), (None, ()), (1, []), (1, None), (1, (("ann", 1),)), (2, (("ann", 0), ("ann", 1))),
            (2, (("ann", 0), ("bob", 0))), (1, (("ann", False),)), (1, (("Ann", 0),)), (1, (["ann", 0],)), (1, ("ann",)), (1, (deep_tuple(),)),
            (1, deep_list()),
        ):
            with self.assertRaises(NoHistory) as caught:
                House(people, owners)
            self.assertIsNone(caught.exception.at)
        for value in strange_values():
            with self.assertRaises(NoHistory):
                House(2, (value,))
            if value != ():
                with self.assertRaises(NoHistory):
                    House(2, value)
            if value != 10 ** 4299:
                with self.assertRaises(NoHistory):
                    House(value, ())

    def test_wrong_events_change_nothing(self):
        house = House(3, OWNERS)
        for event in (born(0, "a", 1, "b"), letter("ann", "a", "leave", 1), letter("ann", "a", "meet", 1)):
            house.do(event)
        history, book = house.history(), house.book("ann")
        wrong = [
            born(0, "a", 2, "c"), born(2, "c", 0, "a"), born(1, "z", 1, "y"), born(0, "z", 3, "y"), born(True, "z", 2, "y"), born(0, "Z", 2, "y"),
            gone(0, "b"), gone(2, "a"), letter("zoe", "", *WALK), letter("ann", "a", "leave", 1), letter("bob", "z", "meet", 1),
            letter("ann", "a", "tie", "a", "c"), letter("ann", "a", "tie", "c", "b"), letter("ann", "", "part"), letter("ann", "a", "look", True),
            calm("ann", 2), calm("bob", 0), calm("ann", True), calm("ann", -1), ("born", 0, "z", 2), list(gone(0, "a")), ("letter", "ann", ["a"], WALK),
        ]
        for event in wrong + strange_values():
            with self.assertRaises(NoHistory) as caught:
                house.do(event)
            self.assertEqual(caught.exception.at, 3)
            self.assertEqual(house.history(), history)
            self.assertEqual(house.book("ann"), book)
        self.assertEqual(house.do(letter("ann", "a", "leave", 2)), 4)
        self.assertEqual(house.do(gone(0, "a")), 5)
        with self.assertRaises(NoHistory) as caught:
            house.do(gone(0, "a"))
        self.assertEqual(caught.exception.at, 5)
        self.assertEqual(played(house.history())["ann"], house.book("ann"))

    def test_names(self):
        house = filled((3, OWNERS, (born(0, "a", 1, "b"), letter("ann", "a", *WALK))))
        for name in ["zoe", "Ann", "", None, True, 0, ("ann",), ["ann"], deep_tuple()] + strange_values():
            for call in (
                lambda: house.book(name), lambda: house.lots(name), lambda: house.known(name, None, None),
                lambda: house.known(name, (0, 0), (0, 1)),
            ):
                with self.assertRaises(NoName) as caught:
                    call()
                self.assertIs(caught.exception.name, name)

    def test_places(self):
        house = filled((3, OWNERS, (born(0, "a", 1, "b"), letter("ann", "a", *WALK))))
        wrong = [(0, 2), (1, 0), (-1, 0), (0, -1), (True, 0), (False, 0), (0, True), [0, 0], (0,), (0, 0, 0), ("ann", 0, 0)]
        for place in wrong + [value for value in strange_values() if value != (0, 0)]:
            for one, other in ((place, None), ((0, 0), place), (place, place)):
                with self.assertRaises(NoPlace) as caught:
                    house.known("ann", one, other)
                self.assertIs(caught.exception.place, place)
        with self.assertRaises(NoPlace) as caught:
            house.known("ann", (8, 1), (8, 2))
        self.assertEqual(caught.exception.place, (8, 1))
        with self.assertRaises(NoPlace):
            house.known("bob", (0, 0), (0, 0))


if __name__ == "__main__":
    unittest.main()
