"""Promise [4]: the main guarantees, with the functions of the package and by search."""

import math
import unittest

from autoclosing.costs import cost
from autoclosing.counts import count_shortest, level_ways
from autoclosing.keys import accepted_moves, inverse_keys, run_keys, states_after_each
from autoclosing.roles import idle_keys, roles_of
from autoclosing.shortest import building_keys, clearing_keys, is_shortest, lowering_keys
from tests.helpers import (
    LONG_TEXTS, end_of, marked_after, marked_of, reached_by_all, search_layers, searched_counts, state_of,
    states_up_to, wandering_lists,
)


class MainGuarantees(unittest.TestCase):

    def test_every_key_changes_the_cost_by_one(self):
        for state in states_up_to("a()[]", 6) + states_up_to("ab{}", 5):
            for key in accepted_moves(state) + "az([{":
                self.assertEqual(abs(cost(run_keys(state, key)) - cost(state)), 1, (state, key))

    def test_every_key_of_long_lists_changes_the_cost_by_one(self):
        for keys in wandering_lists():
            costs = [cost(state) for state in states_after_each(("", 0), keys)]
            self.assertEqual({abs(one - two) for one, two in zip(costs, costs[1:])}, {1})

    def test_every_key_in_long_states(self):
        for text in LONG_TEXTS:
            for cursor in (0, 1, 2, 74, 75, 76, 149, 150):
                for key in accepted_moves((text, cursor)) + "a([{":
                    following = run_keys((text, cursor), key)
                    self.assertEqual(abs(cost(following) - cost((text, cursor))), 1, (text, cursor, key))

    def test_the_cost_is_the_fewest_keys_to_the_state(self):
        for keys, longest in (("a()<>-", 9), ("ab[]{}<>-", 6)):
            for state, length, _ in searched_counts(keys, longest):
                self.assertEqual((cost(state), len(building_keys(state))), (length, length), state)

    def test_the_cost_is_the_fewest_keys_back(self):
        for signs, longest in (("a()<>-", 5), ("b[]{<>-", 4)):
            for state, length, _ in searched_counts(signs, longest):
                self.assertEqual(self.fewest_back(state, signs), length, state)
                self.assertEqual(len(clearing_keys(state)), length)
                self.assertEqual(run_keys(state, clearing_keys(state)), ("", 0))

    def fewest_back(self, state, signs):
        """The number of keys from the state to the empty one, by pressing each key in each state."""
        layer = {marked_of(state)}
        seen = set(layer)
        length = 0
        while "|" not in layer:
            layer = {marked_after(marked, key) for marked in layer for key in signs} - seen - {None}
            seen |= layer
            length += 1
        return length

    def test_lengths_are_all_even_or_all_odd(self):
        for signs, longest in (("a(<>-", 7), ("a()[]<>-", 5)):
            for keys, state in reached_by_all(signs, longest).items():
                self.assertEqual((len(keys) - cost(state)) % 2, 0, keys)

    def test_lengths_between_two_states(self):
        for start in states_up_to("a()", 4):
            for keys in ("a<", "(-", "()", "a(<<", "ab<-", "[", "a"):
                end = run_keys(start, keys)
                others = [clearing_keys(start) + building_keys(end), keys + inverse_keys(start, keys) + keys]
                for other in others:
                    self.assertEqual(run_keys(start, other), end)
                    self.assertEqual((len(other) - len(keys)) % 2, 0, (start, keys, other))

    def test_the_keys_with_roles_are_as_many_as_the_cost(self):
        lists = list(reached_by_all("a(<>-", 7)) + list(reached_by_all("a()[]<>-", 5)) + wandering_lists()
        for keys in lists:
            state = run_keys(("", 0), keys)
            needed = [role for role in roles_of(keys) if role is not None]
            self.assertEqual(len(needed), cost(state), keys)
            self.assertEqual(len(set(needed)), len(needed))
            self.assertEqual(is_shortest(state, keys), idle_keys(keys) == [], keys)

    def test_no_idle_key_if_and_only_if_shortest_by_search(self):
        fewest = {}
        for keys, state in reached_by_all("a()[<>-", 6).items():
            shortest = len(keys) == fewest.setdefault(state, len(keys))
            self.assertEqual(idle_keys(keys) == [], shortest, keys)

    def test_the_plain_shortest_key_lists_are_the_product_of_the_ways(self):
        for layer in search_layers("a(<>-", 10):
            for marked, many in layer.items():
                state = state_of(marked)
                self.assertEqual((count_shortest(state), math.prod(level_ways(state))), (many, many), state)

    def test_every_path_of_lowering_keys_is_a_way_back(self):
        for state in states_up_to("a()[]", 6) + [end_of(keys) for keys in wandering_lists()[:5]]:
            for choose in (min, max):
                current = state
                pressed = 0
                while current != ("", 0):
                    current = run_keys(current, choose(lowering_keys(current)))
                    pressed += 1
                self.assertEqual(pressed, cost(state), state)


if __name__ == "__main__":
    unittest.main()
