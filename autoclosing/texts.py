"""Texts, whose brackets are balanced, and states, which are texts with a cursor."""

from autoclosing.errors import InvalidStateError, InvalidTextError

CLOSING_OF = {"(": ")", "[": "]", "{": "}"}
EMPTY_STATE = ("", 0)


def is_letter(sign):
    """Whether a single character is a letter."""
    return "a" <= sign <= "z"


def begins_item(sign):
    """Whether a single character is a letter or an opening bracket."""
    return is_letter(sign) or sign in CLOSING_OF


def is_integer(value):
    """Whether the value is an integer: True and False are none."""
    return isinstance(value, int) and not isinstance(value, bool)


def is_text(value):
    """Whether the value is a text."""
    if not isinstance(value, str):
        return False
    awaited = []
    for sign in value:
        if sign in CLOSING_OF:
            awaited.append(CLOSING_OF[sign])
        elif awaited and sign == awaited[-1]:
            awaited.pop()
        elif not is_letter(sign):
            return False
    return not awaited


def is_state(value):
    """Whether the value is a state."""
    # Exactly a tuple, as the document asks: a subclass of it is none.
    if type(value) != tuple or len(value) != 2:
        return False
    text, cursor = value
    return is_text(text) and is_integer(cursor) and 0 <= cursor <= len(text)


def check_text(text):
    """Raise the error for what is not a text."""
    if not is_text(text):
        raise InvalidTextError("not a text")


def check_state(state):
    """Raise the error for what is not a state."""
    if not is_state(state):
        raise InvalidStateError("not a state")


def matched_pairs(text):
    """The pairs of what is known to be a text, in ascending order."""
    pairs = []
    openings = []
    for index, sign in enumerate(text):
        if sign in CLOSING_OF:
            openings.append(index)
        elif not is_letter(sign):
            pairs.append((openings.pop(), index))
    return sorted(pairs)


def pairs_around(pairs, cursor):
    """Those of the pairs that contain the cursor, in the order given."""
    return [(first, last) for first, last in pairs if first < cursor <= last]


def items_between(closings, start, end):
    """The items side by side from index start to before index end.

    closings gives the index of the closing bracket for that of each opening one.
    """
    items = []
    first = start
    while first < end:
        last = closings.get(first, first)
        items.append((first, last))
        first = last + 1
    return items


def items_beside(items, cursor):
    """The items left of the cursor, and those right of it."""
    left = [(first, last) for first, last in items if last < cursor]
    right = [(first, last) for first, last in items if first >= cursor]
    return left, right


def pairs_of(text):
    """The pairs of the text, in ascending order."""
    check_text(text)
    return matched_pairs(text)


def enclosing_pairs(state):
    """The pairs that contain the cursor, the outermost first."""
    check_state(state)
    text, cursor = state
    # The outer one of two such pairs opens first, so ascending order is the one asked for.
    return pairs_around(matched_pairs(text), cursor)


def level_items(state):
    """For each level, the outermost first, its items left and right of the cursor."""
    check_state(state)
    text, cursor = state
    pairs = matched_pairs(text)
    closings = dict(pairs)
    # The outermost level has no brackets: their places would be just outside of the text.
    bounds = [(-1, len(text))] + pairs_around(pairs, cursor)
    return [items_beside(items_between(closings, first + 1, last), cursor) for first, last in bounds]
