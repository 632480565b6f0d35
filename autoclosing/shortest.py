"""Shortest key lists: from the empty state to a state, and back."""

from autoclosing.costs import cost
from autoclosing.errors import BlockedKeyError
from autoclosing.keys import after_key, inverse_keys, is_key_list, run_keys
from autoclosing.texts import EMPTY_STATE, begins_item, check_state


def lowers_cost(state, key):
    """Whether the key is not blocked and lowers the cost."""
    following = after_key(state, key)
    return following is not None and cost(following) < cost(state)


def lowering_keys(state):
    """Those of the keys `-`, `<` and `>` that are not blocked and lower the cost."""
    check_state(state)
    return "".join([key for key in "-<>" if lowers_cost(state, key)])


def clearing_key(state):
    """The first key of the clearing list of a state that is not the empty one."""
    text, cursor = state
    # Behind a closing bracket `-` is blocked, so it may be asked for first, whatever it deletes.
    if after_key(state, "-") is not None:
        return "-"
    if cursor > 0 and not begins_item(text[cursor - 1]):
        return "<"
    return ">"


def clearing_keys(state):
    """The clearing list of the state."""
    check_state(state)
    keys = []
    current = state
    while current != EMPTY_STATE:
        keys.append(clearing_key(current))
        current = after_key(current, keys[-1])
    return "".join(keys)


def building_keys(state):
    """The building list of the state."""
    return inverse_keys(state, clearing_keys(state))


def is_shortest(state, value):
    """Whether the value is a shortest key list for the state."""
    fewest = cost(state)
    if not is_key_list(value) or len(value) != fewest:
        return False
    try:
        return run_keys(EMPTY_STATE, value) == state
    except BlockedKeyError:
        return False


def shorten_keys(keys):
    """The building list of the state that the key list reaches from the empty state."""
    return building_keys(run_keys(EMPTY_STATE, keys))
