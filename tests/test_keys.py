"""Promises [2], [3], [4] (states and keys alone), [7] and [8]: keys."""

import itertools
import unittest

from autoclosing.errors import BlockedKeyError, InvalidKeysError, InvalidStateError
from autoclosing.keys import accepted_moves, inverse_keys, is_key_list, run_keys, states_after_each
from tests.helpers import (
    ALL_KEYS, BAD_BLOCKED_KEYS, BAD_KEYS, NESTED, NOT_STRINGS, bad_states, expected_after, expected_cost,
    expected_states, is_exactly, states_up_to, strings_up_to,
)

WITH_KEYS = (run_keys, states_after_each, inverse_keys)
SOME_KEYS = "ab([)]<>-"


class IsKeyList(unittest.TestCase):

    def test_examples_of_the_document(self):
        self.assertEqual([is_key_list("(a>-"), is_key_list("A"), is_key_list("")], [True, False, True])

    def test_every_key_and_no_other_character(self):
        for code in range(0x3000):
            sign = chr(code)
            with self.subTest(code=code):
                self.assertIs(is_key_list(sign), sign in ALL_KEYS)
                self.assertIs(is_key_list("a" + sign + ">"), sign in ALL_KEYS)

    def test_key_lists(self):
        for keys in ("", ALL_KEYS, ")(", "(]", "----", "<" * 400, "a" * 400, (ALL_KEYS * 12)[:400]):
            with self.subTest(keys=keys):
                self.assertIs(is_key_list(keys), True)

    def test_other_values(self):
        for keys, _ in BAD_KEYS:
            with self.subTest(keys=keys):
                self.assertIs(is_key_list(keys), False)
        for value in NOT_STRINGS:
            with self.subTest(value=value):
                self.assertIs(is_key_list(value), False)

    def test_by_name(self):
        self.assertIs(is_key_list(value="<"), True)


class RunKeys(unittest.TestCase):

    def test_examples_of_the_document(self):
        self.assertEqual(run_keys(("", 0), "(a>b"), ("(a)b", 4))
        with self.assertRaises(BlockedKeyError) as caught:
            run_keys(("", 0), "(a]")
        self.assertEqual(caught.exception.index, 2)

    def test_no_key(self):
        for state in (("", 0), ("(a)b", 2), (NESTED, 75)):
            self.assertTrue(is_exactly(run_keys(state, ""), state))

    def test_letters(self):
        for letter in "abcdefghijklmnopqrstuvwxyz":
            self.assertEqual(run_keys(("", 0), letter), (letter, 1))
        self.assertEqual(run_keys(("bc", 1), "a"), ("bac", 2))
        self.assertEqual(run_keys(("()", 1), "z"), ("(z)", 2))
        self.assertEqual(run_keys(("()", 2), "z"), ("()z", 3))

    def test_opening_brackets(self):
        for opening, closing in ("()", "[]", "{}"):
            self.assertEqual(run_keys(("", 0), opening), (opening + closing, 1))
            self.assertEqual(run_keys(("ab", 1), opening), ("a" + opening + closing + "b", 2))
            self.assertEqual(run_keys(("ab", 2), opening), ("ab" + opening + closing, 3))
            self.assertEqual(run_keys(("()", 1), opening), ("(" + opening + closing + ")", 2))

    def test_closing_brackets(self):
        for opening, closing in ("()", "[]", "{}"):
            text = opening + closing
            self.assertEqual(run_keys((text, 1), closing), (text, 2))
            self.assertEqual(run_keys(("a" + opening + "b" + closing, 3), closing), ("a" + opening + "b" + closing, 4))
            for state in (("", 0), (text, 0), (text, 2), (opening + "a" + closing, 1), ("a", 0)):
                self.assert_blocked(state, closing, 0)
            for other in ")]}".replace(closing, ""):
                self.assert_blocked((text, 1), other, 0)

    def test_arrows(self):
        text = "(a)[b]{}"
        for cursor in range(len(text) + 1):
            if cursor:
                self.assertEqual(run_keys((text, cursor), "<"), (text, cursor - 1))
            if cursor < len(text):
                self.assertEqual(run_keys((text, cursor), ">"), (text, cursor + 1))
        self.assert_blocked((text, 0), "<", 0)
        self.assert_blocked((text, len(text)), ">", 0)
        self.assert_blocked(("", 0), "<", 0)
        self.assert_blocked(("", 0), ">", 0)

    def test_backspace(self):
        self.assertEqual(run_keys(("ab", 2), "-"), ("a", 1))
        self.assertEqual(run_keys(("ab", 1), "-"), ("b", 0))
        self.assertEqual(run_keys(("a()", 1), "-"), ("()", 0))
        for text in ("()", "[]", "{}"):
            self.assertEqual(run_keys((text, 1), "-"), ("", 0))
            self.assertEqual(run_keys(("a" + text + "b", 2), "-"), ("ab", 1))
            self.assertEqual(run_keys(("(" + text + ")", 2), "-"), ("()", 1))
            self.assert_blocked((text, 0), "-", 0)
            self.assert_blocked((text, 2), "-", 0)
            self.assert_blocked((text[0] + "a" + text[1], 1), "-", 0)
            self.assert_blocked((text[0] + "()" + text[1], 1), "-", 0)
            self.assert_blocked((text[0] + "()" + text[1], 3), "-", 0)
        for opening, closing in itertools.permutations(("()", "[]", "{}"), 2):
            self.assert_blocked((opening + closing, 2), "-", 0)
        self.assert_blocked(("", 0), "-", 0)
        self.assert_blocked(("a", 0), "-", 0)

    def test_long_lists(self):
        self.assertEqual(run_keys(("", 0), "a" * 400), ("a" * 400, 400))
        self.assertEqual(run_keys(("", 0), "({" * 200), ("({" * 200 + "})" * 200, 400))
        self.assertEqual(run_keys(("", 0), "(" * 75 + "[" * 75 + "]" * 75 + ")" * 75),
                         ("(" * 75 + "[" * 75 + "]" * 75 + ")" * 75, 300))
        self.assertEqual(run_keys((NESTED, 75), "-" * 75), ("", 0))
        self.assertEqual(run_keys((NESTED, 75), ")" * 75 + "<" * 150), (NESTED, 0))
        self.assertEqual(run_keys(("a" * 150, 150), "-" * 150), ("", 0))
        self.assertEqual(run_keys(("a" * 150, 75), "()" * 200), ("a" * 75 + "()" * 200 + "a" * 75, 475))

    def test_what_was_returned_may_be_passed_back(self):
        state = ("a" * 150, 0)
        for _ in range(3):
            state = run_keys(state, "[" * 400)
        self.assertEqual(state, ("[" * 1200 + "]" * 1200 + "a" * 150, 1200))
        self.assertEqual(accepted_moves(state), "]<>-")
        self.assertEqual(run_keys(state, "-" * 400 + "]" * 400), ("[" * 800 + "]" * 800 + "a" * 150, 1200))

    def assert_blocked(self, state, keys, index):
        """All functions with keys raise this error, and no other."""
        for function in WITH_KEYS:
            with self.assertRaises(BlockedKeyError) as caught:
                function(state, keys)
            self.assertIs(type(caught.exception), BlockedKeyError)
            self.assertTrue(is_exactly(caught.exception.index, index), (state, keys, caught.exception.index))

    def test_the_first_blocked_key_counts(self):
        self.assert_blocked(("", 0), "-ab", 0)
        self.assert_blocked(("", 0), "ab>", 2)
        self.assert_blocked(("", 0), "ab>>", 2)
        self.assert_blocked(("", 0), "a)b-->", 1)
        self.assert_blocked(("", 0), ">a>", 0)
        self.assert_blocked(("()", 1), "a<-", 2)
        self.assert_blocked(("", 0), "a" * 399 + ">", 399)
        self.assert_blocked(("", 0), "a" * 200 + "]" + "a" * 199, 200)
        self.assert_blocked((NESTED, 75), "-" * 76, 75)

    def test_wrong_keys(self):
        for function in WITH_KEYS:
            for keys, index in BAD_KEYS:
                with self.subTest(function=function, keys=keys):
                    self.assert_invalid_keys(function, keys, index)
            for keys in NOT_STRINGS:
                with self.subTest(function=function, keys=keys):
                    self.assert_invalid_keys(function, keys, None)

    def assert_invalid_keys(self, function, keys, index):
        """The function raises this error, and no other."""
        for state in (("", 0), ("(a)b", 2)):
            with self.assertRaises(InvalidKeysError) as caught:
                function(state, keys)
            self.assertIs(type(caught.exception), InvalidKeysError)
            self.assertTrue(is_exactly(caught.exception.index, index), (keys, caught.exception.index))

    def test_a_strange_character_comes_before_a_blocked_key(self):
        for function in WITH_KEYS:
            for keys, index in BAD_BLOCKED_KEYS:
                self.assert_invalid_keys(function, keys, index)

    def test_a_wrong_state_comes_first(self):
        for function in WITH_KEYS:
            for state in bad_states():
                for keys in ("", "a", "A", "a1", "}", None, 5):
                    with self.subTest(function=function, state=state, keys=keys):
                        with self.assertRaises(InvalidStateError) as caught:
                            function(state, keys)
                        self.assertIs(type(caught.exception), InvalidStateError)

    def test_every_key_in_every_small_state(self):
        for state in states_up_to("a()[]", 5):
            for key in ")]}([{az<>-":
                expected = expected_after(state, key)
                if expected is None:
                    self.assert_blocked(state, key, 0)
                else:
                    self.assertTrue(is_exactly(run_keys(state, key), expected), (state, key))

    def test_all_short_key_lists(self):
        for keys in strings_up_to("a[(])<>-", 5):
            states, blocked = expected_states(("", 0), keys)
            try:
                found = run_keys(("", 0), keys)
                self.assertIs(blocked, None, keys)
                self.assertTrue(is_exactly(found, states[-1]), keys)
            except BlockedKeyError as error:
                self.assertEqual(error.index, blocked, keys)

    def test_by_name(self):
        self.assertEqual(run_keys(state=("", 0), keys="a"), ("a", 1))
        self.assertEqual(run_keys(keys="a", state=("", 0)), ("a", 1))

    def test_a_call_that_raises_changes_nothing(self):
        state = ("(a)b", 2)
        for keys in ("a>>>>", "A", None):
            for function in WITH_KEYS:
                self.assertRaises((BlockedKeyError, InvalidKeysError), function, state, keys)
        self.assertEqual(run_keys(state, "c"), ("(ac)b", 3))
        strange = [["a"], 0]
        self.assertRaises(InvalidStateError, run_keys, strange, "a")
        self.assertEqual(strange, [["a"], 0])
        keys = ["a"]
        self.assertRaises(InvalidKeysError, run_keys, ("", 0), keys)
        self.assertEqual(keys, ["a"])


class StatesAfterEach(unittest.TestCase):

    def test_examples_of_the_document(self):
        self.assertEqual(states_after_each(("", 0), "(a)"), [("", 0), ("()", 1), ("(a)", 2), ("(a)", 3)])

    def test_edges(self):
        self.assertEqual(states_after_each(("", 0), ""), [("", 0)])
        self.assertEqual(states_after_each(("(a)", 2), ""), [("(a)", 2)])
        self.assertEqual(states_after_each(("", 0), "a" * 400), [("a" * many, many) for many in range(401)])
        self.assertEqual(states_after_each(("", 0), "()<<>-{}")[-4:], [("()", 1), ("", 0), ("{}", 1), ("{}", 2)])

    def test_all_short_key_lists(self):
        for keys in strings_up_to("a(])<>-", 4):
            for state in (("", 0), ("[a]b", 2)):
                states, blocked = expected_states(state, keys)
                if blocked is None:
                    self.assertTrue(is_exactly(states_after_each(state, keys), states), keys)

    def test_by_name(self):
        self.assertEqual(states_after_each(state=("", 0), keys="a"), [("", 0), ("a", 1)])

    def test_each_list_is_new(self):
        states_after_each(("", 0), "a").clear()
        states_after_each(("", 0), "").append(1)
        self.assertEqual(states_after_each(("", 0), "a"), [("", 0), ("a", 1)])
        self.assertEqual(states_after_each(("", 0), ""), [("", 0)])


class AcceptedMoves(unittest.TestCase):

    def test_examples_of_the_document(self):
        self.assertEqual(accepted_moves(("(a)", 2)), ")<>-")

    def test_edges(self):
        self.assertEqual(accepted_moves(("", 0)), "")
        self.assertEqual(accepted_moves(("a", 0)), ">")
        self.assertEqual(accepted_moves(("a", 1)), "<-")
        for text in ("()", "[]", "{}"):
            self.assertEqual(accepted_moves((text, 0)), ">")
            self.assertEqual(accepted_moves((text, 1)), text[1] + "<>-")
            self.assertEqual(accepted_moves((text, 2)), "<")
            self.assertEqual(accepted_moves((text[0] + "a" + text[1], 1)), "<>")
        self.assertEqual(accepted_moves((NESTED, 0)), ">")
        self.assertEqual(accepted_moves((NESTED, 75)), ")<>-")
        self.assertEqual(accepted_moves((NESTED, 76)), ")<>")
        self.assertEqual(accepted_moves((NESTED, 150)), "<")

    def test_all_small_states(self):
        for state in itertools.chain(states_up_to("a()[]", 6), states_up_to("a{}", 7)):
            expected = "".join(key for key in ")]}<>-" if expected_after(state, key) is not None)
            self.assertTrue(is_exactly(accepted_moves(state), expected), state)

    def test_letters_and_opening_brackets_are_never_blocked(self):
        for state in states_up_to("a()", 5):
            for key in "abcdefghijklmnopqrstuvwxyz([{":
                self.assertEqual(run_keys(state, key), expected_after(state, key))

    def test_wrong_states(self):
        for state in bad_states():
            with self.subTest(state=state):
                with self.assertRaises(InvalidStateError) as caught:
                    accepted_moves(state)
                self.assertIs(type(caught.exception), InvalidStateError)

    def test_by_name(self):
        self.assertEqual(accepted_moves(state=("a", 1)), "<-")


class InverseKeys(unittest.TestCase):

    def test_examples_of_the_document(self):
        self.assertEqual(inverse_keys(("(a)b", 2), "->>-"), "b<<a")

    def test_each_key(self):
        self.assertEqual(inverse_keys(("", 0), ""), "")
        self.assertEqual(inverse_keys(("(a)b", 2), ""), "")
        for key in "abcdefghijklmnopqrstuvwxyz([{":
            self.assertEqual(inverse_keys(("", 0), key), "-")
            self.assertEqual(inverse_keys(run_keys(("", 0), key), "-"), key)
        for text in ("()", "[]", "{}"):
            self.assertEqual(inverse_keys((text, 1), text[1]), "<")
            self.assertEqual(inverse_keys((text, 1), ">"), "<")
            self.assertEqual(inverse_keys((text, 1), "<"), ">")
        self.assertEqual(inverse_keys(("ab", 2), "<-c"), "-a>")

    def test_long_lists(self):
        self.assertEqual(inverse_keys(("", 0), "a" * 400), "-" * 400)
        self.assertEqual(inverse_keys(("abc" * 50, 150), "-" * 150), "abc" * 50)
        self.assertEqual(inverse_keys((NESTED, 75), "-" * 75), "(" * 75)

    def test_it_leads_back(self):
        for state in (("", 0), ("(a)b", 2), ("[()]a", 5)):
            for keys in strings_up_to("a(])<>-", 4):
                if expected_states(state, keys)[1] is None:
                    back = inverse_keys(state, keys)
                    self.assertIs(type(back), str)
                    self.assertEqual(len(back), len(keys))
                    self.assertEqual(run_keys(run_keys(state, keys), back), state, (state, keys))
                    self.assertEqual(states_after_each(run_keys(state, keys), back),
                                     states_after_each(state, keys)[::-1])

    def test_by_name(self):
        self.assertEqual(inverse_keys(state=("a", 1), keys="-"), "a")


class MainGuarantees(unittest.TestCase):
    """Promise [4], as far as it speaks of states and keys alone."""

    def test_every_key_changes_the_cost_by_one(self):
        for state in states_up_to("a()[]", 6):
            for key in accepted_moves(state) + "az([{":
                difference = expected_cost(run_keys(state, key)) - expected_cost(state)
                self.assertIn(difference, (-1, 1), (state, key))

    def test_lengths_are_all_even_or_all_odd(self):
        lengths = {}
        for keys in strings_up_to("a()<>-", 6):
            if expected_states(("", 0), keys)[1] is None:
                lengths.setdefault(run_keys(("", 0), keys), set()).add(len(keys) % 2)
        self.assertEqual({len(found) for found in lengths.values()}, {1})
        self.assertGreater(len(lengths), 100)

    def test_there_and_back_take_the_cost(self):
        states = states_up_to("a()", 6)
        forth = {("", 0): 0}
        back = {("", 0): 0}
        layer = [("", 0)]
        while layer:
            layer = self.grow(forth, layer, lambda state, key: run_keys(state, key))
        layer = [("", 0)]
        while layer:
            layer = self.grow(back, layer, self.before)
        for state in states:
            self.assertEqual((forth[state], back[state]), (expected_cost(state),) * 2, state)

    def grow(self, distances, layer, step):
        """The states one key further, among texts of up to six characters."""
        found = []
        for state in layer:
            for key in accepted_moves(state) + "a(":
                following = step(state, key)
                if len(following[0]) <= 6 and following not in distances:
                    distances[following] = distances[state] + 1
                    found.append(following)
        return found

    def before(self, state, key):
        """A state from which one key leads to this one."""
        found = run_keys(state, key)
        self.assertEqual(run_keys(found, inverse_keys(state, key)), state)
        return found


if __name__ == "__main__":
    unittest.main()
