"""Roles of keys: what each key of a list is needed for."""

from autoclosing.keys import states_after_each
from autoclosing.texts import EMPTY_STATE, begins_item, check_state, is_letter, matched_pairs


def trace_states(states):
    """Who made the last one of these states, the first of which is the empty state.

    Returns the list of the keys that inserted the characters of its text, and a dict that
    gives for a key that inserted something the last key that moved over it. Keys are given
    as positions. The brackets of a pair share one key, so that the dict speaks of both.
    """
    inserters = []
    movers = {}
    for position, (before, after) in enumerate(zip(states, states[1:])):
        index = min(before[1], after[1])
        growth = len(after[0]) - len(before[0])
        if growth > 0:
            inserters[index:index] = [position] * growth
        elif growth < 0:
            del inserters[index:index - growth]
        else:
            movers[inserters[index]] = position
    return inserters, movers


def needed_roles(state):
    """The roles of all shortest key lists for the state, in ascending order."""
    check_state(state)
    text, cursor = state
    exits = [("exit", first) for first, last in matched_pairs(text) if not first < cursor <= last]
    inserts = [("insert", index) for index, sign in enumerate(text) if begins_item(sign)]
    passes = [("pass", index) for index, sign in enumerate(text) if index >= cursor and is_letter(sign)]
    return exits + inserts + passes


def roles_of(keys):
    """The roles of all keys, None for an idle key."""
    states = states_after_each(EMPTY_STATE, keys)
    inserters, movers = trace_states(states)
    roles = [None] * len(keys)
    for role, index in needed_roles(states[-1]):
        inserter = inserters[index]
        roles[inserter if role == "insert" else movers[inserter]] = (role, index)
    return roles


def idle_keys(keys):
    """The positions of the idle keys, in ascending order."""
    return [position for position, role in enumerate(roles_of(keys)) if role is None]
