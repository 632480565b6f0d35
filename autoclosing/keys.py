"""Keys: what they do to a state."""

from autoclosing.errors import BlockedKeyError, InvalidKeysError
from autoclosing.texts import CLOSING_OF, begins_item, check_state, is_letter

SIGN_KEYS = "()[]{}<>-"
MOVES = ")]}<>-"


def is_key(sign):
    """Whether a single character is a key."""
    return is_letter(sign) or sign in SIGN_KEYS


def is_key_list(value):
    """Whether the value is a key list."""
    return isinstance(value, str) and all([is_key(sign) for sign in value])


def check_keys(keys):
    """Raise the error for what is not a key list."""
    if not isinstance(keys, str):
        raise InvalidKeysError(None)
    for index, sign in enumerate(keys):
        if not is_key(sign):
            raise InvalidKeysError(index)


def after_deletion(left, right):
    """The state after `-` between these two parts of a text, None if it is blocked."""
    if left and is_letter(left[-1]):
        return left[:-1] + right, len(left) - 1
    if left and right and CLOSING_OF.get(left[-1]) == right[0]:
        return left[:-1] + right[1:], len(left) - 1
    return None


def after_key(state, key):
    """The state after one key, None if it is blocked."""
    text, cursor = state
    left = text[:cursor]
    right = text[cursor:]
    if is_letter(key):
        return left + key + right, cursor + 1
    if key in CLOSING_OF:
        return left + key + CLOSING_OF[key] + right, cursor + 1
    if key == "-":
        return after_deletion(left, right)
    if key == "<":
        return (text, cursor - 1) if left else None
    if right and key in (">", right[0]):
        return text, cursor + 1
    return None


def inverse_of(state, key):
    """The key that undoes a key which is pressed in this state."""
    text, cursor = state
    if begins_item(key):
        return "-"
    if key == "-":
        return text[cursor - 1]
    if key == "<":
        return ">"
    return "<"


def states_after_each(state, keys):
    """The states before the first key and after each key."""
    check_state(state)
    check_keys(keys)
    states = [state]
    for index, key in enumerate(keys):
        following = after_key(states[-1], key)
        if following is None:
            raise BlockedKeyError(index)
        states.append(following)
    return states


def run_keys(state, keys):
    """The state after all keys."""
    return states_after_each(state, keys)[-1]


def accepted_moves(state):
    """Those of the keys `)`, `]`, `}`, `<`, `>` and `-` that are not blocked."""
    check_state(state)
    return "".join([key for key in MOVES if after_key(state, key) is not None])


def inverse_keys(state, keys):
    """The key list that leads from the state after all keys back to this one."""
    states = states_after_each(state, keys)
    inverses = [inverse_of(before, key) for before, key in zip(states, keys)]
    return "".join(reversed(inverses))
