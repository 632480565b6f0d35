"""Promises [2], [3] and [9]: costs."""

import unittest

from autoclosing.costs import best_cursors, cost, cost_profile, fewest_keys
from tests.helpers import (
    LONG_TEXTS, NESTED, CallChecks, end_of, expected_cost, is_exactly, searched_counts, states_up_to, texts_up_to,
    wandering_lists,
)

OF_TEXTS = (cost_profile, fewest_keys, best_cursors)


class Cost(CallChecks):

    def test_examples_of_the_document(self):
        self.assertEqual([cost(("(a)b", 2)), cost(("", 0))], [4, 0])

    def test_edges(self):
        self.assertEqual([cost(("a", cursor)) for cursor in range(2)], [2, 1])
        for text in ("()", "[]", "{}"):
            self.assertEqual([cost((text, cursor)) for cursor in range(3)], [2, 1, 2])
        self.assertEqual([cost(("([{}])", cursor)) for cursor in range(7)], [6, 5, 4, 3, 4, 5, 6])
        self.assertEqual([cost(("()[]", cursor)) for cursor in range(5)], [4, 3, 4, 3, 4])
        self.assertEqual([cost((NESTED, cursor)) for cursor in (0, 1, 74, 75, 76, 150)], [150, 149, 76, 75, 76, 150])
        self.assertEqual([cost(("a" * 150, cursor)) for cursor in (0, 1, 149, 150)], [300, 299, 151, 150])
        self.assertEqual([cost(("()" * 75, cursor)) for cursor in (0, 1, 2, 149, 150)], [150, 149, 150, 149, 150])

    def test_small_states(self):
        for state in states_up_to("a()[]", 6) + states_up_to("abz{}", 5):
            self.assertTrue(is_exactly(cost(state), expected_cost(state)), state)

    def test_long_states(self):
        states = [(text, cursor) for text in LONG_TEXTS for cursor in range(151)]
        for state in states + [end_of(keys) for keys in wandering_lists()]:
            self.assertTrue(is_exactly(cost(state), expected_cost(state)), state)

    def test_it_is_the_fewest_keys_that_a_search_finds(self):
        for keys, longest in (("a(<>-", 9), ("ab([{<>-", 5), ("a()[]<>-", 7)):
            for state, length, _ in searched_counts(keys, longest):
                self.assertEqual(cost(state), length, state)

    def test_wrong_states(self):
        self.assert_checks_states([cost])

    def test_by_name(self):
        self.assertEqual(cost(state=("(a)b", 2)), 4)


class CostProfile(CallChecks):

    def test_examples_of_the_document(self):
        self.assertEqual(cost_profile("(a)b"), [6, 5, 4, 5, 4])

    def test_edges(self):
        self.assertEqual(cost_profile(""), [0])
        self.assertEqual(cost_profile("abc"), [6, 5, 4, 3])
        self.assertEqual(cost_profile("{[()]}"), [6, 5, 4, 3, 4, 5, 6])
        self.assertEqual(cost_profile("(){}"), [4, 3, 4, 3, 4])
        self.assertEqual(cost_profile(NESTED), list(range(150, 75, -1)) + list(range(75, 151)))
        self.assertEqual(cost_profile("a" * 150), list(range(300, 149, -1)))
        self.assertEqual(cost_profile("[]" * 75), [150, 149] * 75 + [150])

    def test_all_cursors(self):
        for text in texts_up_to("a()[]", 6) + texts_up_to("abz{}", 5) + list(LONG_TEXTS):
            expected = [expected_cost((text, cursor)) for cursor in range(len(text) + 1)]
            self.assertTrue(is_exactly(cost_profile(text), expected), text)

    def test_texts_of_reached_states(self):
        for keys in wandering_lists():
            text = end_of(keys)[0]
            self.assertEqual(cost_profile(text), [cost((text, cursor)) for cursor in range(len(text) + 1)])

    def test_each_list_is_new(self):
        for text in ("", "(a)b", NESTED):
            self.assert_new_lists(cost_profile, text)

    def test_by_name(self):
        self.assertEqual(cost_profile(text="a"), [2, 1])


class FewestKeys(CallChecks):

    def test_examples_of_the_document(self):
        self.assertEqual(fewest_keys("(())()"), 4)

    def test_edges(self):
        found = [fewest_keys(text) for text in ("", "a", "abc", "()", "()[]{}", "(a)b", "([{}])")]
        self.assertEqual(found, [0, 1, 3, 1, 5, 4, 3])
        self.assertEqual([fewest_keys(text) for text in (NESTED, "a" * 150, "()" * 75)], [75, 150, 149])

    def test_it_is_the_fewest_keys_that_a_search_finds(self):
        for keys, longest in (("a(<>-", 9), ("ab[{<>-", 6), ("a()[]<>-", 7)):
            found = {}
            for (text, _), length, _ in searched_counts(keys, longest):
                found.setdefault(text, length)
            for text, length in found.items():
                self.assertTrue(is_exactly(fewest_keys(text), length), text)

    def test_long_texts(self):
        for text in LONG_TEXTS + tuple(end_of(keys)[0] for keys in wandering_lists()):
            self.assertEqual(fewest_keys(text), min(expected_cost((text, at)) for at in range(len(text) + 1)))

    def test_by_name(self):
        self.assertEqual(fewest_keys(text="ab"), 2)


class BestCursors(CallChecks):

    def test_examples_of_the_document(self):
        self.assertEqual(best_cursors("(a)b"), [2, 4])

    def test_edges(self):
        found = [best_cursors(text) for text in ("", "a", "abc", "()", "()[]{}", "(a)b(c)", "([{}])", "a()", "()a")]
        self.assertEqual(found, [[0], [1], [3], [1], [1, 3, 5], [6], [3], [2], [1, 3]])
        self.assertEqual([best_cursors(text) for text in (NESTED, "a" * 150)], [[75], [150]])
        self.assertEqual(best_cursors("{}" * 75), list(range(1, 150, 2)))

    def test_all_cursors(self):
        for text in texts_up_to("a()[]", 6) + texts_up_to("abz{}", 5) + list(LONG_TEXTS):
            costs = [expected_cost((text, cursor)) for cursor in range(len(text) + 1)]
            expected = [cursor for cursor in range(len(text) + 1) if costs[cursor] == min(costs)]
            self.assertTrue(is_exactly(best_cursors(text), expected), text)

    def test_each_list_is_new(self):
        for text in ("", "(a)b", "()" * 75):
            self.assert_new_lists(best_cursors, text)

    def test_by_name(self):
        self.assertEqual(best_cursors(text="ab"), [2])


class WrongTexts(CallChecks):

    def test_wrong_texts(self):
        self.assert_checks_texts(OF_TEXTS)


if __name__ == "__main__":
    unittest.main()
