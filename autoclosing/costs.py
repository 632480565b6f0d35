"""Costs: how many keys a state needs."""

from autoclosing.texts import begins_item, check_state, check_text


def costs_along(text):
    """The costs for all cursors, in ascending order, in what is known to be a text."""
    costs = [2 * len([sign for sign in text if begins_item(sign)])]
    for sign in text:
        # The cursor gets right of a letter, into a pair, or out of one again.
        costs.append(costs[-1] - 1 if begins_item(sign) else costs[-1] + 1)
    return costs


def cost(state):
    """The cost of the state."""
    check_state(state)
    text, cursor = state
    return costs_along(text)[cursor]


def cost_profile(text):
    """The costs of the states with this text, for the cursors from 0 on."""
    check_text(text)
    return costs_along(text)


def fewest_keys(text):
    """The smallest length of a key list from the empty state to a state with this text."""
    return min(cost_profile(text))


def best_cursors(text):
    """The cursors with the smallest cost, in ascending order."""
    costs = cost_profile(text)
    smallest = min(costs)
    return [cursor for cursor, needed in enumerate(costs) if needed == smallest]
