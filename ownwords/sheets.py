"""Sheets: histories in which everyone is there several times, and which no book without marks tells apart."""

from ownwords.errors import NoHistory, NoName, NoSheets
from ownwords.forms import is_below, is_whole
from ownwords.histories import play_of

FEWEST_SHEETS = 2
MOST_SHEETS = 5
RESTFUL_ERRANDS = ("walk", "list", "leave", "look")


def sheeted(history, k, shifts):
    """The history with everyone there once in each of k sheets; ties lead from sheet to sheet by their shifts."""
    play_at_rest(history, k, shifts)
    people, owners, events = history
    found = []
    for number, event in enumerate(events):
        if event[0] != "born":
            found.append(event)
            continue
        kind, one, word, other, back = event
        for sheet in range(k):
            found.append((kind, k * one + sheet, word, k * other + (sheet + shifts[number]) % k, back))
    return (k * people, tuple([(name, k * person) for name, person in owners]), tuple(found))


def shift_of(history, k, shifts, name, way):
    """The sum of the shifts along the way from this owner on; None if the way is lost."""
    play = play_at_rest(history, k, shifts)
    if not play.is_owner(name):
        raise NoName(name)
    stops, backs = play.walk(play.homes[name], way)
    if len(backs) < len(way):
        return None
    shift_from = {}
    for event, shift in zip(history[2], shifts):
        shift_from[event[1:3]] = shift
        shift_from[event[3:5]] = k - shift
    return sum([shift_from[step] for step in zip(stops, way)]) % k


def play_at_rest(history, k, shifts):
    """The play of a history at rest; raises NoHistory, and NoSheets if these are no sheets and shifts for it."""
    play = play_of(history)
    events = history[2]
    births = 0
    while births < len(events) and events[births][0] == "born":
        births += 1
    for number in range(births, len(events)):
        if events[number][0] != "letter" or events[number][3][0] not in RESTFUL_ERRANDS:
            raise NoHistory(number)
    if not is_whole(k) or not FEWEST_SHEETS <= k <= MOST_SHEETS:
        raise NoSheets(k, shifts)
    if not isinstance(shifts, list) or len(shifts) != births or not all([is_below(shift, k) for shift in shifts]):
        raise NoSheets(k, shifts)
    return play
