"""What every history that the package returns for a book must hold, and what can be read off such a history."""

from ownwords.histories import Play, person_at, played
from ownwords.worlds import is_history_of

from tests import naive


def check_history(case, book, history, put=(), asked=0):
    """The history has the book, keeps the bounds, and has different people in the lots behind these pairs.

    asked counts the words that were asked for, each of which allows two more events and one more person.
    """
    case.assertIs(is_history_of(book, history), True)
    case.assertEqual(played(history)["me"], book)
    people, owners, events = history
    kinds = [event[0] for event in events]
    case.assertNotIn("calm", kinds)
    case.assertEqual(kinds.count("letter"), len(book))
    lots = naive.fold(book, put)
    words = sum(len(row[2][2]) for row in book if naive.came(row) and row[1] == ("list",))
    mets = sum(row[0] == "met" for row in book)
    bound = 2 * len(naive.ends(book)) // 2 + 2 * words + 4 * mets + 2 * asked
    case.assertLessEqual(kinds.count("born") + kinds.count("gone"), bound)
    case.assertLessEqual(people, max(1, len(set(lots.values())) + words + 2 * mets + asked))
    persons = {place: person_at(history, "me", place) for place in lots}
    for one in lots:
        for other in lots:
            case.assertEqual(persons[one] == persons[other], lots[one] == lots[other], (one, other))


def in_use(history, place, word, row):
    """Whether the word is in use by the person at the place at the moment of this row of the book of "me"."""
    person = person_at(history, "me", place)
    play = Play(history[0], history[1])
    for event in history[2]:
        living = word in play.living.get(person, {})
        play.do(event)
        if len(play.books["me"]) > row:
            return living
    return None
