"""Promises [2], [3] and [11]: the numbers of shortest key lists."""

import functools
import itertools
import math
import unittest

from autoclosing.counts import count_all_shortest, count_shortest, count_shortest_for, level_ways
from autoclosing.keys import run_keys
from tests.helpers import (
    LONG_TEXTS, MIXED_NESTED, NESTED, CallChecks, end_of, is_exactly, reduces_to_nothing, search_layers,
    searched_counts, state_of, states_up_to, texts_up_to, wandering_keys, wandering_lists, without_pairs,
)

OF_STATES = (level_ways, count_shortest, count_all_shortest)
CATALAN = [math.comb(2 * n, n) // (n + 1) for n in range(160)]


def split_items(text):
    """The items of a text side by side, as strings."""
    items = []
    start = 0
    for end in range(1, len(text) + 1):
        if end > start and reduces_to_nothing(text[start:end]):
            items.append(text[start:end])
            start = end
    return items


@functools.cache
def ways_within(text):
    """F for all items of a text."""
    items = tuple(split_items(text))
    return ways_between(items)


@functools.cache
def ways_between(items):
    """F(i, j) of [11], for the items from i to j."""
    if not items:
        return 1
    total = sum(ways_between(items[k + 1:]) * ways_between(items[:k])
                for k in range(len(items)) if items[k].isalpha())
    if not items[-1].isalpha():
        total += ways_within(items[-1][1:-1]) * ways_between(items[:-1])
    return total


@functools.cache
def ways_in_excursions(items, many):
    """E(m) of [11]: in how many ways exactly so many excursions make these items."""
    if not items or many == 0:
        return int(not items and many == 0)
    total = 0
    for end in range(1, len(items) + 1):
        if items[0].isalpha():
            first = ways_between(items[1:end])
        else:
            first = ways_within(items[0][1:-1]) if end == 1 else 0
        total += first * ways_in_excursions(items[end:], many - 1)
    return total


def split_levels(state):
    """The texts left and right of the cursor of each level, the outermost first.

    Without letters and pairs, what is left of the cursor are the brackets that contain it.
    """
    text, cursor = state
    depth = len(without_pairs(text[:cursor]))
    lefts = [""]
    for sign in text[:cursor]:
        if sign in "([{":
            lefts.append("")
        elif sign in ")]}":
            inner = lefts.pop()
            lefts[-1] += "(" + inner + ")"
        else:
            lefts[-1] += sign
    rights = [""]
    for sign in reversed(text[cursor:]):
        if sign in ")]}":
            rights.append("")
        elif sign in "([{":
            inner = rights.pop()
            rights[-1] = "(" + inner + ")" + rights[-1]
        else:
            rights[-1] = sign + rights[-1]
    assert len(lefts) == len(rights) == depth + 1
    return list(zip(lefts, rights))


def expected_ways(state):
    """The ways of all levels, by the formulas of [11]."""
    found = []
    for left, right in split_levels(state):
        many_left = len(split_items(left))
        items = tuple(split_items(right))
        found.append(sum(ways_in_excursions(items, many) * math.comb(many_left + many, many_left)
                         for many in range(len(items) + 1)))
    return found


def pairs_left(state):
    """How many pairs end left of the cursor."""
    text, cursor = state
    return sum(sign in ")]}" for sign in text[:cursor])


class LevelWays(CallChecks):

    def test_examples_of_the_document(self):
        self.assertEqual(level_ways(("a(b)c", 2)), [2, 1])

    def test_edges(self):
        self.assertEqual(level_ways(("", 0)), [1])
        self.assertEqual([level_ways(("a", cursor)) for cursor in range(2)], [[1], [1]])
        for text in ("()", "[]", "{}"):
            self.assertEqual([level_ways((text, cursor)) for cursor in range(3)], [[1], [1, 1], [1]])
            self.assertEqual([level_ways((text * 2, cursor)) for cursor in range(5)],
                             [[1], [1, 1], [2], [1, 1], [1]])
        self.assertEqual(level_ways((NESTED, 75)), [1] * 76)
        self.assertEqual(level_ways((MIXED_NESTED, 30)), [1] * 31)
        self.assertEqual(level_ways((NESTED, 0)), [1])
        self.assertEqual(level_ways(("a(bc)de", 3)), [5, 2])

    def test_letters_right_of_the_cursor(self):
        for many in range(151):
            self.assertEqual(level_ways(("a" * many, 0)), [CATALAN[many]])
            self.assertEqual(level_ways(("(" + "a" * many + ")", 1)), [1, CATALAN[many]])
            self.assertEqual(level_ways(("(" + "a" * many + ")", 0)), [CATALAN[many]])

    def test_pairs_right_of_the_cursor(self):
        for many_left, many_right in itertools.product(range(0, 38, 4), repeat=2):
            text = "[]" * (many_left + many_right)
            self.assertEqual(level_ways((text, 2 * many_left)), [math.comb(many_left + many_right, many_left)])

    def test_formulas_for_small_states(self):
        for state in states_up_to("a()[]", 6) + states_up_to("a{}", 9) + states_up_to("ab()", 6):
            self.assertTrue(is_exactly(level_ways(state), expected_ways(state)), state)

    def test_formulas_for_middle_states(self):
        for seed, signs, length in itertools.product(range(1, 25), ("a(<", "ab([<<>", "a(a[<>)a<<"), (20, 40)):
            state = end_of(wandering_keys(seed, signs, length))
            self.assertTrue(is_exactly(level_ways(state), expected_ways(state)), state)

    def test_formulas_for_long_states(self):
        for text in LONG_TEXTS + ("(a[]b)" * 25, "a(b)" * 37 + "zz", "(" * 25 + "ab" * 50 + ")" * 25):
            for cursor in (0, 1, 2, 37, 75, 76, 110, 149, 150):
                if text[:1] != "a" or cursor > 100:
                    self.assertTrue(is_exactly(level_ways((text, cursor)), expected_ways((text, cursor))))

    def test_each_list_is_new(self):
        for state in (("", 0), ("a(b)c", 2), (NESTED, 75)):
            self.assert_new_lists(level_ways, state)

    def test_by_name(self):
        self.assertEqual(level_ways(state=("a", 1)), [1])


class CountShortest(CallChecks):

    def test_examples_of_the_document(self):
        self.assertEqual([count_shortest(("ab", 1)), count_shortest(("abc", 0))], [2, 5])

    def test_edges(self):
        states = [("", 0), ("a", 0), ("()", 0), ("()", 1), ("()", 2), (NESTED, 75), (NESTED, 0), ("a" * 150, 150)]
        self.assertEqual([count_shortest(state) for state in states], [1] * len(states))
        self.assertEqual(count_shortest(("a" * 150, 0)), CATALAN[150])
        self.assertEqual(count_shortest(("()" * 75, 74)), math.comb(75, 37))
        self.assertEqual(count_shortest(("()" * 75, 75)), math.comb(74, 37))
        self.assertEqual(count_shortest(("(aa)" * 37, 0)), 2 ** 37)

    def test_it_is_what_a_search_finds(self):
        for keys, longest in (("a(<>-", 10), ("ab[{<>-", 7), ("abc(<>-", 6)):
            for state, _, many in searched_counts(keys, longest):
                self.assertTrue(is_exactly(count_shortest(state), many), state)

    def test_long_states_by_the_formulas(self):
        for keys in wandering_lists()[::2]:
            state = end_of(keys[:150])
            self.assertEqual(count_shortest(state), math.prod(expected_ways(state)), state)

    def test_reached_states(self):
        for keys in wandering_lists():
            state = end_of(keys)
            self.assertEqual(count_shortest(state), math.prod(level_ways(state)))
        deep = run_keys((NESTED, 75), "([" * 200)
        self.assertEqual(count_shortest(deep), 1)
        self.assertEqual(count_shortest((deep[0], 0)), 1)
        self.assertEqual(count_shortest(("a" * 400, 0)), math.comb(800, 400) // 401)
        self.assertEqual(count_shortest(("a" * 550, 300)), sum(
            math.comb(300 + many, many) * many * math.comb(499 - many, 249) // 250 for many in range(1, 251)))

    def test_by_name(self):
        self.assertEqual(count_shortest(state=("ab", 1)), 2)


class CountAllShortest(CallChecks):

    def test_examples_of_the_document(self):
        self.assertEqual(count_all_shortest(("()a", 3)), 2)

    def test_edges(self):
        found = [count_all_shortest(state) for state in (("", 0), ("a", 0), ("a", 1), ("aa", 0), ("()", 0), ("()", 1))]
        self.assertEqual(found, [1, 1, 1, 2, 1, 1])
        for text, many in (("()", 2), ("[]", 2), ("{}", 2), ("a(bc)d", 2), ("([])", 4), ("()[]{}", 8)):
            self.assertEqual(count_all_shortest((text, len(text))), many)
        self.assertEqual([count_all_shortest((NESTED, cursor)) for cursor in (0, 75, 76, 150)], [1, 1, 2, 2 ** 75])
        self.assertEqual(count_all_shortest((MIXED_NESTED, 149)), 2 ** 74)
        self.assertEqual(count_all_shortest(("()" * 75, 74)), math.comb(75, 37) * 2 ** 37)

    def test_it_is_what_a_search_finds(self):
        for keys, longest in (("a()<>-", 9), ("ab[]{}<>-", 6), ("()[]<>-", 8)):
            for state, _, many in searched_counts(keys, longest):
                self.assertTrue(is_exactly(count_all_shortest(state), many), state)

    def test_long_states(self):
        for state in [end_of(keys) for keys in wandering_lists()]:
            self.assertEqual(count_all_shortest(state), count_shortest(state) * 2 ** pairs_left(state), state)

    def test_by_name(self):
        self.assertEqual(count_all_shortest(state=("[]", 2)), 2)


class CountShortestFor(CallChecks):

    def test_examples_of_the_document(self):
        self.assertEqual(count_shortest_for("()()"), 2)

    def test_edges(self):
        found = [count_shortest_for(text) for text in ("", "a", "abc", "()", "[]", "{}", "(a)b", "([{}])")]
        self.assertEqual(found, [1, 1, 1, 1, 1, 1, 2, 1])
        self.assertEqual([count_shortest_for(text) for text in (NESTED, MIXED_NESTED, "a" * 150)], [1, 1, 1])
        self.assertEqual(count_shortest_for("()" * 75), 2 ** 74)

    def test_it_is_what_a_search_finds(self):
        for keys, longest in (("a(<>-", 10), ("ab[{<>-", 7), ("abc(<>-", 6)):
            found = {}
            # The layers come with fewer keys first: the first one that has a text counts alone.
            for layer in search_layers(keys, longest):
                now = {}
                for marked, many in layer.items():
                    text = state_of(marked)[0]
                    now[text] = now.get(text, 0) + many
                for text, many in now.items():
                    found.setdefault(text, many)
            for text, many in found.items():
                self.assertTrue(is_exactly(count_shortest_for(text), many), text)

    def test_formulas(self):
        for text in texts_up_to("a()[]", 6) + texts_up_to("a{}", 8) + ["(a[]b)" * 25, "(" * 50 + "a)" * 50]:
            costs = {}
            for cursor in range(len(text) + 1):
                left = text[:cursor]
                gain = len(without_pairs(left)) + sum(sign.isalpha() for sign in left)
                costs.setdefault(gain, []).append(math.prod(expected_ways((text, cursor))))
            self.assertEqual(count_shortest_for(text), sum(costs[max(costs)]), text)

    def test_reached_texts(self):
        for text in ("(" * 475 + ")" * 475, "({" * 200 + "})" * 200, "a" * 950):
            self.assertEqual(count_shortest_for(text), 1)
        self.assertEqual(count_shortest_for("()" * 200), 2 ** 199)

    def test_wrong_texts(self):
        self.assert_checks_texts([count_shortest_for])

    def test_by_name(self):
        self.assertEqual(count_shortest_for(text="()()"), 2)


class WrongStates(CallChecks):

    def test_wrong_states(self):
        self.assert_checks_states(OF_STATES)


if __name__ == "__main__":
    unittest.main()
