"""Going on from a state: the fewest further keys if given characters are kept."""

from autoclosing.errors import InvalidKeptError
from autoclosing.keys import check_keys, states_after_each
from autoclosing.shortest import building_keys
from autoclosing.texts import check_state, is_integer, matched_pairs


def kept_after(state, keys):
    """The state after all keys, and the indexes in its text of the characters of this state."""
    check_state(state)
    check_keys(keys)
    if "-" in keys:
        raise InvalidKeptError("characters are deleted")
    states = states_after_each(state, keys)
    marks = [True] * len(state[0])
    for before, after in zip(states, states[1:]):
        growth = len(after[0]) - len(before[0])
        cursor = before[1]
        marks[cursor:cursor] = [False] * growth
    return states[-1], [index for index, mark in enumerate(marks) if mark]


def is_ascending(value, end):
    """Whether the value is a strictly ascending list of integers from 0 to below the end."""
    # Exactly a list, as the document asks: a subclass of it is none.
    if type(value) != list:
        return False
    lowest = 0
    for index in value:
        if not is_integer(index) or not lowest <= index < end:
            return False
        lowest = index + 1
    return True


def keeps_pairs(text, kept):
    """Whether of each pair both brackets are kept, or neither of them and nothing within it."""
    marks = [False] * len(text)
    for index in kept:
        marks[index] = True
    for first, last in matched_pairs(text):
        is_whole = marks[first] and marks[last]
        if not is_whole and any(marks[first:last + 1]):
            return False
    return True


def is_kept(state, target, value):
    """Whether the value is a kept list for the two states."""
    check_state(state)
    check_state(target)
    text = target[0]
    if not is_ascending(value, len(text)):
        return False
    spelled = "".join([text[index] for index in value])
    return spelled == state[0] and keeps_pairs(text, value)


def by_the_left(parts, start, low, goal):
    """The keys from gap start left to gap low, and on to gap goal with what is new before it."""
    made = [building_keys((part, len(part))) + ">" for part in parts[low:goal]]
    return "<" * (start - low) + "".join(made)


def by_the_right(parts, start, high, goal):
    """The keys from gap start right to gap high, and back to gap goal with what is new behind it."""
    made = [building_keys((part, 0)) + "<" for part in reversed(parts[goal + 1:high + 1])]
    return ">" * (high - start) + "".join(made)


def further_keys(state, target, kept):
    """A shortest key list without `-` from the state to the target that keeps these characters."""
    if not is_kept(state, target, kept):
        raise InvalidKeptError("not a kept list for the two states")
    text, cursor = target
    starts = [0] + [index + 1 for index in kept]
    ends = kept + [len(text)]
    # What is new in a gap is a text by itself, as no new pair has anything kept within it.
    parts = [text[first:end] for first, end in zip(starts, ends)]
    start = state[1]
    goal = len([index for index in kept if index < cursor])
    visited = [start, goal] + [gap for gap, part in enumerate(parts) if part]
    low = min(visited)
    high = max(visited)
    # The side away from the goal comes first: what is between start and goal is then crossed once.
    if start <= goal:
        detours = by_the_left(parts, start, low, goal) + by_the_right(parts, goal, high, goal)
    else:
        detours = by_the_right(parts, start, high, goal) + by_the_left(parts, goal, low, goal)
    return detours + building_keys((parts[goal], cursor - starts[goal]))


def fewest_further(state, target, kept):
    """The smallest length of such a key list."""
    return len(further_keys(state, target, kept))
