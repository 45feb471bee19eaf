"""The forms of the small values: whole numbers, words, names, marks, ways, errands and keys.

Each function here but the last takes any value at all, so it looks at what a value is before it looks into it.
"""

WORD_SIGNS = "abcdefghijklmnopqrstuvwxyz0123456789"
NAME_SIGNS = "abcdefghijklmnopqrstuvwxyz"
LONGEST_WORD = 6
LONGEST_NAME = 8
MARK_END = 10 ** 30

BARE_ERRANDS = ("walk", "list", "part")
NUMBERED_ERRANDS = ("leave", "look", "meet")


def is_whole(thing):
    """Whether this is a whole number: True and False are none."""
    return isinstance(thing, int) and not isinstance(thing, bool)


def is_below(thing, end):
    """Whether this is a whole number from 0 up to, but not including, the end."""
    return is_whole(thing) and 0 <= thing < end


def is_spelled(thing, longest, signs):
    """Whether this is a string of one of these signs or more, up to the longest."""
    return isinstance(thing, str) and 1 <= len(thing) <= longest and all(sign in signs for sign in thing)


def is_word(thing):
    """Whether this is a word for a tie."""
    return is_spelled(thing, LONGEST_WORD, WORD_SIGNS)


def is_name(thing):
    """Whether this is a name that an owner may have."""
    return is_spelled(thing, LONGEST_NAME, NAME_SIGNS)


def is_mark(thing):
    """Whether this is a mark; signs have the same form."""
    return is_below(thing, MARK_END)


def is_way(thing):
    """Whether this is a tuple of words."""
    return isinstance(thing, tuple) and all(is_word(word) for word in thing)


def is_shared_errand(thing):
    """Whether this is an errand that histories and books write alike, which are all but the tie errand."""
    if not isinstance(thing, tuple):
        return False
    if len(thing) == 1:
        return thing[0] in BARE_ERRANDS
    return len(thing) == 2 and thing[0] in NUMBERED_ERRANDS and is_mark(thing[1])


def is_errand(thing):
    """Whether this is an errand as a history writes it."""
    if is_shared_errand(thing):
        return True
    return isinstance(thing, tuple) and len(thing) == 3 and thing[0] == "tie" and is_way(thing[1:])


def is_row_errand(thing):
    """Whether this is an errand as the rows of a book write it."""
    return is_shared_errand(thing) or thing == ("tie",)


def is_key(thing):
    """Whether this can be the name of a book, a row, a place, a tie or an end, and so may be looked for among them."""
    if is_whole(thing) or isinstance(thing, str):
        return True
    return isinstance(thing, tuple) and all(is_whole(part) or isinstance(part, str) for part in thing)


def is_answer(thing, word, size):
    """Whether this is a tuple of this size with this word at its front."""
    return isinstance(thing, tuple) and len(thing) == size and thing[0] == word


def spelled(number, signs):
    """A string of these signs for each whole number, the shorter ones first, no two alike."""
    text = signs[number % len(signs)]
    while number >= len(signs):
        number = number // len(signs) - 1
        text = signs[number % len(signs)] + text
    return text
