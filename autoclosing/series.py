"""Counting states: how many need a given number of keys."""

from autoclosing.errors import InvalidNumberError, TooManyStatesError
from autoclosing.keys import after_key
from autoclosing.texts import CLOSING_OF, EMPTY_STATE, begins_item, is_integer

ALPHABET = "abcdefghijklmnopqrstuvwxyz"
MOST_TOTAL = 200
MOST_LISTED = 1000


def check_numbers(letters, kinds, total):
    """Raise the error for numbers that are not allowed."""
    for number, most in ((letters, len(ALPHABET)), (kinds, len(CLOSING_OF)), (total, MOST_TOTAL)):
        if not is_integer(number) or not 0 <= number <= most:
            raise InvalidNumberError(f"not an integer from 0 to {most}")


def product_at(one, other, power):
    """The coefficient of this power in the product of two series, which are lists of coefficients."""
    return sum([one[low] * other[power - low] for low in range(power + 1)])


def side_series(letters, kinds, letter_cost, total):
    """The series of the texts on one side of the cursor, where each letter has this cost.

    It is A of the document for the cost 1, and B for the cost 2.
    """
    series = [1]
    for power in range(1, total + 1):
        count = kinds * product_at(series, series, power - 2)
        if power >= letter_cost:
            count += letters * series[power - letter_cost]
        series.append(count)
    return series


def count_left(letters, kinds, total):
    """The number of texts whose state with the cursor at the end has this cost."""
    check_numbers(letters, kinds, total)
    return side_series(letters, kinds, 1, total)[total]


def count_right(letters, kinds, total):
    """The number of texts whose state with the cursor 0 has this cost."""
    check_numbers(letters, kinds, total)
    return side_series(letters, kinds, 2, total)[total]


def count_states(letters, kinds, total):
    """The number of states with this cost."""
    check_numbers(letters, kinds, total)
    left = side_series(letters, kinds, 1, total)
    right = side_series(letters, kinds, 2, total)
    levels = [product_at(left, right, power) for power in range(total + 1)]
    series = []
    for power in range(total + 1):
        # Within the outermost level there is nothing more, or a pair with a state in it.
        series.append(levels[power] + kinds * product_at(levels, series, power - 1))
    return series[total]


def raising_keys(state, inserting):
    """Those of the inserting keys, `<` and `>` that are not blocked and raise the cost."""
    text, cursor = state
    keys = inserting
    if cursor > 0 and begins_item(text[cursor - 1]):
        keys += "<"
    if cursor < len(text) and not begins_item(text[cursor]):
        keys += ">"
    return keys


def list_states(letters, kinds, total):
    """All states with this cost, in ascending order."""
    count = count_states(letters, kinds, total)
    if count > MOST_LISTED:
        raise TooManyStatesError(count)
    inserting = ALPHABET[:letters] + "".join(list(CLOSING_OF)[:kinds])
    # Some key leads to each state from one of the next lower cost. The lists on the way are
    # no longer than the last one: the same inserting key leads on from all of their states.
    states = [EMPTY_STATE]
    for _ in range(total):
        states = sorted({after_key(state, key) for state in states for key in raising_keys(state, inserting)})
    return states
