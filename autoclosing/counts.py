"""Counting the shortest key lists for a state."""

from math import comb

from autoclosing.costs import best_cursors
from autoclosing.texts import CLOSING_OF, is_letter, level_items, pairs_of


def with_letter(made):
    """The ways to make some items, by the number of excursions, with a letter left of them.

    The letter begins the last excursion, which also makes any number of what would be the
    last excursions without it. So F of the document, the ways to make items within one
    excursion or one pair, never has to be known for itself: it is the sum of all E(m).
    """
    sums = []
    total = 0
    for ways in reversed(made):
        total += ways
        sums.append(total)
    # The excursion of the letter is always there, so none at all is impossible.
    return [0] + sums[::-1]


def with_pair(made, inner):
    """The ways to make some items, by the number of excursions, with a pair left of them.

    The pair, which is made in this number of ways, is an excursion by itself.
    """
    return [0] + [inner * ways for ways in made]


def excursion_ways(right):
    """The ways to make what is right of the cursor, for all levels, the outermost first.

    For each level a list: at index m the ways to make its items in exactly m excursions.
    """
    levels = [[1]]
    # From the right: a closing bracket leads into a level, and its opening bracket out of it.
    # What stays open contains the cursor.
    for sign in reversed(right):
        if is_letter(sign):
            levels[-1] = with_letter(levels[-1])
        elif sign in CLOSING_OF:
            inner = sum(levels.pop())
            levels[-1] = with_pair(levels[-1], inner)
        else:
            levels.append([1])
    return levels


def ways_of_level(many_left, made):
    """The ways of a level with this number of items left of the cursor."""
    return sum([ways * comb(many_left + many, many_left) for many, ways in enumerate(made)])


def level_ways(state):
    """The ways of all levels, the outermost first."""
    many_left = [len(left) for left, right in level_items(state)]
    text, cursor = state
    made = excursion_ways(text[cursor:])
    return [ways_of_level(many, ways) for many, ways in zip(many_left, made)]


def count_shortest(state):
    """The number of plain shortest key lists for the state."""
    count = 1
    for ways in level_ways(state):
        count *= ways
    return count


def count_all_shortest(state):
    """The number of shortest key lists for the state, plain or not."""
    count = count_shortest(state)
    text, cursor = state
    for _, last in pairs_of(text):
        # A pair left of the cursor was left by `>` or by its closing bracket.
        if last < cursor:
            count *= 2
    return count


def count_shortest_for(text):
    """The number of plain key lists of the smallest length that lead to a state with this text."""
    return sum([count_shortest((text, cursor)) for cursor in best_cursors(text)])
