"""Values and short forms that several test files use."""


def nested(depth, wrap):
    """A value nested this deep, by a function that wraps a value once more."""
    value = wrap(None)
    for _ in range(depth - 1):
        value = wrap(value)
    return value


def deep_tuple():
    """A new tuple that is nested as deep as callers may nest."""
    return nested(900, lambda value: (value,))


def deep_list():
    """A new list that is nested as deep as callers may nest."""
    return nested(900, lambda value: [value])


def strange_values():
    """Values of all kinds that callers may pass: no words, no errands, events or rows; () is the only way."""
    return [
        None, True, False, -1, -9, 10 ** 4299, -(10 ** 4299), "", "?", "A", "two words", "\u00e9",
        [], [[]], [None, True, "a"], (), ((),), (None,), (None, None), (None, None, None), (True, 0), ("", ""),
        ("walk", None), ([], [], []), ((), (), ()), ("", "met"), ("Calm",), (0, 0), (0, 0, 0), ("a", "b", "?"),
        deep_tuple(), deep_list(), (deep_tuple(), deep_tuple()), [deep_list(), 0], (deep_list(), deep_tuple(), 7),
    ]


def letter(name, way, *errand):
    """The event of a letter; its way may be written as one string with blanks."""
    return ("letter", name, tuple(way.split()), errand)


def born(x, u, y, v):
    """The event of a birth."""
    return ("born", x, u, y, v)


def gone(x, u):
    """The event of an end."""
    return ("gone", x, u)


def calm(name, number):
    """The event of a calm."""
    return ("calm", name, number)


def row(way, errand, *seen):
    """The row of a letter; its way and backs may be written as strings with blanks."""
    return (tuple(way.split()), errand, (seen[0], tuple(seen[1].split())) + seen[2:])


def walk(way, backs):
    """The row of a walk that came."""
    return row(way, WALK, "came", backs, None)


def lost(way, backs=""):
    """The row of a walk that was lost."""
    return row(way, WALK, "lost", backs)


def listed(words, way="", backs=""):
    """The row of a list of these words."""
    return row(way, LIST, "came", backs, tuple(words.split()))


WALK, LIST, TIE, PART = ("walk",), ("list",), ("tie",), ("part",)


def shown(value):
    """The value written out, so that 1 and True are two values."""
    return repr(value)


def changed(thing):
    """Values that differ from this one at one spot: a truth for a number, a list for a tuple, a part more or less."""
    if isinstance(thing, bool) or thing is None:
        return [0, "no"]
    if isinstance(thing, int):
        return [True, False, thing + 1, thing - 1, str(thing), None, -1, 10 ** 4299, (thing,)]
    if isinstance(thing, str):
        return [thing + "z", "", "?", 0, None, (thing,)]
    found = [list(thing), thing + (0,), thing[:-1], thing[::-1], thing + thing[-1:], (), None, deep_tuple(), "x"]
    for at, part in enumerate(thing):
        found.extend(thing[:at] + (other,) + thing[at + 1:] for other in changed(part))
    return found
