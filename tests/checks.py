"""What every history that the package returns for a book must hold, and what can be read off such a history."""

from ownwords.histories import Play, person_at, played
from ownwords.worlds import is_history_of

from tests import naive, naive_several


def check_history(case, book, history, put=(), asked=0):
    """The history has the book, keeps the bounds, and has different people in the lots behind these pairs.

    asked counts the words that were asked for, each of which allows two more events and one more person.
    """
    case.assertIs(is_history_of(book, history), True)
    case.assertEqual(played(history)["me"], book)
    people, owners, events = history
    kinds = [event[0] for event in events]
    case.assertNotIn("calm", kinds)
    case.assertEqual(kinds.count("letter"), len(book))
    lots = naive.fold(book, put)
    words = sum(len(row[2][2]) for row in book if naive.came(row) and row[1] == ("list",))
    mets = sum(row[0] == "met" for row in book)
    bound = 2 * len(naive.ends(book)) // 2 + 2 * words + 4 * mets + 2 * asked
    case.assertLessEqual(kinds.count("born") + kinds.count("gone"), bound)
    case.assertLessEqual(people, max(1, len(set(lots.values())) + words + 2 * mets + asked))
    persons = {place: person_at(history, "me", place) for place in lots}
    for one in lots:
        for other in lots:
            case.assertEqual(persons[one] == persons[other], lots[one] == lots[other], (one, other))


def in_use(history, place, word, row):
    """Whether the word is in use by the person at the place at the moment of this row of the book of "me"."""
    person = person_at(history, "me", place)
    play = Play(history[0], history[1])
    for event in history[2]:
        living = word in play.living.get(person, {})
        play.do(event)
        if len(play.books["me"]) > row:
            return living
    return None


def check_telling(case, book, history):
    """The history has the book, which may have calm rows, and keeps the bounds."""
    case.assertIs(is_history_of(book, history), True)
    people, owners, events = history
    kinds = [event[0] for event in events]
    case.assertEqual(kinds.count("letter") + kinds.count("calm"), len(book))
    words = sum(len(row[2][2]) for row in book if naive.came(row) and row[1] == ("list",))
    mets = sum(row[0] == "met" for row in book)
    case.assertLessEqual(kinds.count("born") + kinds.count("gone"), len(naive.ends(book)) + 2 * words + 4 * mets)
    case.assertLessEqual(people, max(1, len(set(naive.fold(book).values())) + words + 2 * mets))


def check_fitting(case, books, history, wishes=()):
    """The history has all the books, keeps the bounds, and makes the wishes true."""
    told = played(history)
    case.assertEqual({name: told[name] for name in books}, books)
    people, owners, events = history
    kinds = [event[0] for event in events]
    case.assertNotIn("calm", kinds)
    rows = [row for name in books for row in books[name]]
    words = sum(len(row[2][2]) for row in rows if naive.came(row) and row[1] == ("list",))
    mets = sum(row[0] == "met" for row in rows)
    asked = sum(wish[0] in ("lives", "lacks") for wish in wishes)
    empty = sum(len(books[name]) == 0 for name in books)
    ends = sum(len(naive.ends(books[name])) for name in books)
    case.assertLessEqual(kinds.count("born") + kinds.count("gone"), ends + 2 * words + 4 * mets + 2 * asked)
    lots = len(set(naive_several.fold(books, ()).values()))
    case.assertLessEqual(people, max(1, lots + words + 2 * mets + asked + empty))
    for wish in wishes:
        case.assertTrue(is_true(history, books, wish), wish)


def is_true(history, books, wish):
    """Whether the wish about several books is true in a history that has them."""
    def person(place):
        return person_at(history, place[0], place[1:])
    if wish[0] in ("one", "two"):
        return (person(wish[1]) == person(wish[2])) == (wish[0] == "one")
    if wish[0] == "ahead":
        return happening(history, wish[1]) < happening(history, wish[2])
    play = Play(history[0], history[1])
    for event in history[2][:happening(history, wish[3])]:
        play.do(event)
    return (wish[2] in play.living.get(person(wish[1]), {})) == (wish[0] == "lives")


def happening(history, row):
    """The number of the event at whose moment this row of an owner's book came."""
    play = Play(history[0], history[1])
    for number, event in enumerate(history[2]):
        play.do(event)
        if len(play.books[row[0]]) > row[1]:
            return number
    return None
