"""Promise [4]: the main guarantees, with the functions of the package and by search."""

import math
import unittest

from autoclosing.costs import cost
from autoclosing.counts import count_shortest, level_ways
from autoclosing.editor import Editor
from autoclosing.formats import format_roles, format_state, parse_roles, parse_state
from autoclosing.further import fewest_further, further_keys, kept_after
from autoclosing.keys import accepted_moves, inverse_keys, run_keys, states_after_each
from autoclosing.roles import idle_keys, needed_roles, roles_of
from autoclosing.series import count_states, list_states
from autoclosing.shortest import building_keys, clearing_keys, is_shortest, lowering_keys
from tests.helpers import (
    LONG_TEXTS, end_of, marked_after, marked_of, reached_by_all, search_layers, searched_counts, state_of,
    states_up_to, wandering_lists,
)


class MainGuarantees(unittest.TestCase):

    def test_every_key_changes_the_cost_by_one(self):
        for state in states_up_to("a()[]", 6) + states_up_to("ab{}", 5):
            for key in accepted_moves(state) + "az([{":
                self.assertEqual(abs(cost(run_keys(state, key)) - cost(state)), 1, (state, key))

    def test_every_key_of_long_lists_changes_the_cost_by_one(self):
        for keys in wandering_lists():
            costs = [cost(state) for state in states_after_each(("", 0), keys)]
            self.assertEqual({abs(one - two) for one, two in zip(costs, costs[1:])}, {1})

    def test_every_key_in_long_states(self):
        for text in LONG_TEXTS:
            for cursor in (0, 1, 2, 74, 75, 76, 149, 150):
                for key in accepted_moves((text, cursor)) + "a([{":
                    following = run_keys((text, cursor), key)
                    self.assertEqual(abs(cost(following) - cost((text, cursor))), 1, (text, cursor, key))

    def test_the_cost_is_the_fewest_keys_to_the_state(self):
        for keys, longest in (("a()<>-", 9), ("ab[]{}<>-", 6)):
            for state, length, _ in searched_counts(keys, longest):
                self.assertEqual((cost(state), len(building_keys(state))), (length, length), state)

    def test_the_cost_is_the_fewest_keys_back(self):
        for signs, longest in (("a()<>-", 5), ("b[]{<>-", 4)):
            for state, length, _ in searched_counts(signs, longest):
                self.assertEqual(self.fewest_back(state, signs), length, state)
                self.assertEqual(len(clearing_keys(state)), length)
                self.assertEqual(run_keys(state, clearing_keys(state)), ("", 0))

    def fewest_back(self, state, signs):
        """The number of keys from the state to the empty one, by pressing each key in each state."""
        layer = {marked_of(state)}
        seen = set(layer)
        length = 0
        while "|" not in layer:
            layer = {marked_after(marked, key) for marked in layer for key in signs} - seen - {None}
            seen |= layer
            length += 1
        return length

    def test_lengths_are_all_even_or_all_odd(self):
        for signs, longest in (("a(<>-", 7), ("a()[]<>-", 5)):
            for keys, state in reached_by_all(signs, longest).items():
                self.assertEqual((len(keys) - cost(state)) % 2, 0, keys)

    def test_lengths_between_two_states(self):
        for start in states_up_to("a()", 4):
            for keys in ("a<", "(-", "()", "a(<<", "ab<-", "[", "a"):
                end = run_keys(start, keys)
                others = [clearing_keys(start) + building_keys(end), keys + inverse_keys(start, keys) + keys]
                for other in others:
                    self.assertEqual(run_keys(start, other), end)
                    self.assertEqual((len(other) - len(keys)) % 2, 0, (start, keys, other))

    def test_the_keys_with_roles_are_as_many_as_the_cost(self):
        lists = list(reached_by_all("a(<>-", 7)) + list(reached_by_all("a()[]<>-", 5)) + wandering_lists()
        for keys in lists:
            state = run_keys(("", 0), keys)
            needed = [role for role in roles_of(keys) if role is not None]
            self.assertEqual(len(needed), cost(state), keys)
            self.assertEqual(len(set(needed)), len(needed))
            self.assertEqual(is_shortest(state, keys), idle_keys(keys) == [], keys)

    def test_no_idle_key_if_and_only_if_shortest_by_search(self):
        fewest = {}
        for keys, state in reached_by_all("a()[<>-", 6).items():
            shortest = len(keys) == fewest.setdefault(state, len(keys))
            self.assertEqual(idle_keys(keys) == [], shortest, keys)

    def test_the_plain_shortest_key_lists_are_the_product_of_the_ways(self):
        for layer in search_layers("a(<>-", 10):
            for marked, many in layer.items():
                state = state_of(marked)
                self.assertEqual((count_shortest(state), math.prod(level_ways(state))), (many, many), state)

    def test_every_path_of_lowering_keys_is_a_way_back(self):
        for state in states_up_to("a()[]", 6) + [end_of(keys) for keys in wandering_lists()[:5]]:
            for choose in (min, max):
                current = state
                pressed = 0
                while current != ("", 0):
                    current = run_keys(current, choose(lowering_keys(current)))
                    pressed += 1
                self.assertEqual(pressed, cost(state), state)


class ThroughEditors(unittest.TestCase):

    def test_every_key_changes_the_cost_by_one(self):
        for keys in wandering_lists():
            editor = Editor()
            before = cost(editor.state())
            for key in keys:
                editor.press(key)
                after = cost(editor.state())
                self.assertEqual(abs(after - before), 1, keys)
                before = after

    def test_undo_and_redo_change_the_cost_by_one(self):
        for keys in wandering_lists()[:9]:
            editor = Editor()
            editor.press(keys[:140])
            for call in [editor.undo] * 140 + [editor.redo] * 140:
                before = cost(editor.state())
                call()
                self.assertEqual(abs(cost(editor.state()) - before), 1, keys)

    def test_what_is_wasted_are_the_idle_keys(self):
        for keys in list(reached_by_all("a(<>-", 6)) + wandering_lists():
            editor = Editor()
            editor.press(keys)
            wasted = len(idle_keys(editor.pressed()))
            self.assertEqual(editor.wasted(), wasted, keys)
            # Lengths between two states are all even or all odd: what is wasted is even.
            self.assertEqual(wasted % 2, 0)
            self.assertEqual(is_shortest(editor.state(), editor.pressed()), wasted == 0)

    def test_a_tidy_editor_has_the_fewest_keys(self):
        for keys, longest in (("a(<>-", 7), ("ab[]<>-", 5)):
            for state, length, _ in searched_counts(keys, longest):
                editor = Editor()
                editor.press("a<>-" + building_keys(state))
                editor.tidy()
                self.assertEqual((editor.state(), len(editor), editor.wasted()), (state, length, 0))
                self.assertEqual(idle_keys(editor.pressed()), [])
                editor.press(clearing_keys(state))
                self.assertEqual((editor.state(), len(editor)), (("", 0), 2 * length))


class ThroughGoingOn(unittest.TestCase):

    def test_the_fewest_further_keys_from_the_empty_state_are_the_cost(self):
        for state, length, many in searched_counts("a()<>-", 8):
            keys = further_keys(("", 0), state, [])
            self.assertEqual((fewest_further(("", 0), state, []), len(keys)), (length, length), state)
            self.assertTrue(is_shortest(state, keys))
            self.assertEqual(idle_keys(keys), [])

    def test_key_lists_between_two_states_are_all_even_or_all_odd(self):
        for keys in list(reached_by_all("a()<>", 5)) + list(reached_by_all("a[{<>", 5)):
            for many in range(len(keys) + 1):
                state = run_keys(("", 0), keys[:many])
                target, kept = kept_after(state, keys[many:])
                fewest = fewest_further(state, target, kept)
                self.assertLessEqual(fewest, len(keys) - many)
                self.assertEqual((len(keys) - many - fewest) % 2, 0, (keys, many))
                self.assertEqual((cost(target) - cost(state) - fewest) % 2, 0)
                # Each of these keys changes the cost by 1.
                self.assertLessEqual(abs(cost(target) - cost(state)), fewest)

    def test_with_the_way_to_the_state(self):
        for keys in ("(ab<<>", "a<(b>>", "()()<<a", "x[y<<z"):
            for many in range(len(keys) + 1):
                state = run_keys(("", 0), keys[:many])
                target, kept = kept_after(state, keys[many:])
                whole = building_keys(state) + further_keys(state, target, kept)
                self.assertEqual(run_keys(("", 0), whole), target)
                self.assertEqual(len(whole) - len(idle_keys(whole)), cost(target))


class ThroughTheNumbersOfStates(unittest.TestCase):

    def test_the_states_of_each_cost_are_those_with_so_many_fewest_keys(self):
        # Closing brackets and `-` lead to no state with fewer keys.
        for letters, kinds, keys, longest in ((1, 1, "a()<>-", 5), (2, 0, "ab<>-", 8), (0, 2, "()[]<>-", 4)):
            for total, layer in enumerate(search_layers(keys, longest)):
                found = sorted(state_of(marked) for marked in layer)
                self.assertEqual(count_states(letters, kinds, total), len(found))
                if len(found) <= 1000:
                    self.assertEqual(list_states(letters, kinds, total), found)

    def test_the_listed_states(self):
        for numbers in ((1, 1, 5), (26, 2, 2), (2, 3, 2), (0, 1, 8), (2, 0, 9)):
            total = numbers[-1]
            for state in list_states(*numbers):
                self.assertEqual((cost(state), len(needed_roles(state))), (total, total))
                self.assertEqual((len(building_keys(state)), len(clearing_keys(state))), (total, total))
                self.assertEqual(count_shortest(state), math.prod(level_ways(state)))
                self.assertEqual(parse_state(format_state(state)), state)

    def test_each_key_leads_to_a_state_of_a_neighboring_cost(self):
        lists = [list_states(1, 1, total) for total in range(6)]
        for total in range(1, 5):
            for state in lists[total]:
                for key in accepted_moves(state) + "a(":
                    following = run_keys(state, key)
                    self.assertIn(following, lists[total - 1] + lists[total + 1])


class ThroughStrings(unittest.TestCase):

    def test_as_many_words_as_keys_and_as_many_roles_as_the_cost(self):
        for keys in list(reached_by_all("a()<>-", 5)) + wandering_lists():
            words = format_roles(roles_of(keys)).split()
            self.assertEqual(len(words), len(keys))
            self.assertEqual(len(words) - words.count("-"), cost(run_keys(("", 0), keys)))
            self.assertEqual(parse_roles(" ".join(words)), roles_of(keys))


if __name__ == "__main__":
    unittest.main()
