"""Promises [2], [3], [8], [9] and [10]: shortest key lists."""

import unittest

from autoclosing.errors import InvalidStateError
from autoclosing.keys import run_keys
from autoclosing.shortest import building_keys, clearing_keys, is_shortest, lowering_keys, shorten_keys
from tests.helpers import (
    BAD_BLOCKED_KEYS, BAD_KEYS, BLOCKED_KEYS, LONG_TEXTS, NESTED, NOT_STRINGS, CallChecks, bad_states, end_of,
    expected_after, expected_cost, expected_states, is_exactly, reached_by_all, states_up_to, strings_up_to,
    wandering_lists,
)

OF_STATES = (lowering_keys, clearing_keys, building_keys)
SMALL_STATES = states_up_to("a()[]", 6) + states_up_to("abz{}", 5)
LONG_STATES = [(text, cursor) for text in LONG_TEXTS for cursor in (0, 1, 2, 74, 75, 76, 100, 149, 150)]
LONG_STATES += [end_of(keys) for keys in wandering_lists()]


def expected_clearing(state):
    """The clearing list, by the words of [10]."""
    text, cursor = state
    left, right = list(text[:cursor]), list(text[cursor:])
    keys = ""
    while left or right:
        if left and left[-1].isalpha():
            keys += "-"
            left.pop()
        elif left and left[-1] in ")]}":
            keys += "<"
            right.insert(0, left.pop())
        elif left and right and left[-1] + right[0] in ("()", "[]", "{}"):
            keys += "-"
            left.pop()
            right.pop(0)
        else:
            keys += ">"
            left.append(right.pop(0))
    return keys


def expected_building(state):
    """The building list: the inverses of the keys of the clearing list, the last one first."""
    keys = ""
    for key in expected_clearing(state):
        text, cursor = state
        keys = (text[cursor - 1] if key == "-" else {"<": ">", ">": "<"}[key]) + keys
        state = expected_after(state, key)
    return keys


class LoweringKeys(CallChecks):

    def test_examples_of_the_document(self):
        self.assertEqual(lowering_keys(("a(b)", 1)), "->")

    def test_edges(self):
        self.assertEqual(lowering_keys(("", 0)), "")
        self.assertEqual([lowering_keys(("a", cursor)) for cursor in range(2)], [">", "-"])
        for text in ("()", "[]", "{}"):
            self.assertEqual([lowering_keys((text, cursor)) for cursor in range(3)], [">", "-", "<"])
            self.assertEqual(lowering_keys((text * 2, 2)), "<>")
            self.assertEqual([lowering_keys((text[0] + "a" + text[1], cursor)) for cursor in (1, 2, 3)],
                             [">", "-", "<"])
        self.assertEqual([lowering_keys((NESTED, cursor)) for cursor in (0, 74, 75, 76, 150)],
                         [">", ">", "-", "<", "<"])
        self.assertEqual([lowering_keys(("a" * 150, cursor)) for cursor in (0, 75, 150)], [">", "->", "-"])

    def test_small_and_long_states(self):
        for state in SMALL_STATES + LONG_STATES:
            following = [(key, expected_after(state, key)) for key in "-<>"]
            expected = "".join(key for key, after in following
                               if after is not None and expected_cost(after) < expected_cost(state))
            self.assertTrue(is_exactly(lowering_keys(state), expected), state)
            self.assertEqual(expected == "", state == ("", 0))

    def test_by_name(self):
        self.assertEqual(lowering_keys(state=("a", 1)), "-")


class ClearingKeys(CallChecks):

    def test_examples_of_the_document(self):
        self.assertEqual(clearing_keys(("(a)b", 2)), "-->-")

    def test_edges(self):
        self.assertEqual(clearing_keys(("", 0)), "")
        self.assertEqual([clearing_keys(("a", cursor)) for cursor in range(2)], [">-", "-"])
        for text in ("()", "[]", "{}"):
            self.assertEqual([clearing_keys((text, cursor)) for cursor in range(3)], [">-", "-", "<-"])
            # Behind a closing bracket `<` comes first, even if `>` lowers the cost, too.
            self.assertEqual(clearing_keys((text * 2, 2)), "<->-")
            self.assertEqual(clearing_keys((text[0] + "a" + text[1], 1)), ">--")
        self.assertEqual(clearing_keys(("ab", 1)), "->-")
        self.assertEqual(clearing_keys(("(a[b])c", 4)), "---->-")
        self.assertEqual(clearing_keys((NESTED, 0)), ">" * 75 + "-" * 75)
        self.assertEqual(clearing_keys((NESTED, 75)), "-" * 75)
        self.assertEqual(clearing_keys((NESTED, 150)), "<" * 75 + "-" * 75)
        self.assertEqual(clearing_keys(("a" * 150, 0)), ">-" * 150)
        self.assertEqual(clearing_keys(("a" * 150, 150)), "-" * 150)
        self.assertEqual(clearing_keys(("()" * 75, 150)), "<-" * 75)

    def test_small_and_long_states(self):
        for state in SMALL_STATES + LONG_STATES:
            found = clearing_keys(state)
            self.assertTrue(is_exactly(found, expected_clearing(state)), state)
            self.assertEqual(len(found), expected_cost(state))
            self.assertEqual(run_keys(state, found), ("", 0))

    def test_by_name(self):
        self.assertEqual(clearing_keys(state=("a", 1)), "-")


class BuildingKeys(CallChecks):

    def test_examples_of_the_document(self):
        self.assertEqual(building_keys(("(a)b", 2)), "b<(a")
        self.assertEqual(building_keys(("(a)b", 4)), "(a>b")

    def test_edges(self):
        self.assertEqual(building_keys(("", 0)), "")
        self.assertEqual([building_keys(("a", cursor)) for cursor in range(2)], ["a<", "a"])
        for text in ("()", "[]", "{}"):
            opening = text[0]
            self.assertEqual([building_keys((text, cursor)) for cursor in range(3)],
                             [opening + "<", opening, opening + ">"])
            self.assertEqual(building_keys((text * 2, 2)), opening + "<" + opening + ">")
        self.assertEqual(building_keys(("([{}])", 3)), "([{")
        self.assertEqual(building_keys(("abc", 1)), "c<b<a")
        self.assertEqual(building_keys((NESTED, 75)), "(" * 75)
        self.assertEqual(building_keys((NESTED, 150)), "(" * 75 + ">" * 75)
        self.assertEqual(building_keys((NESTED, 0)), "(" * 75 + "<" * 75)
        self.assertEqual(building_keys(("abc" * 50, 150)), "abc" * 50)
        self.assertEqual(building_keys(("abc" * 50, 0)), "c<b<a<" * 50)

    def test_small_and_long_states(self):
        for state in SMALL_STATES + LONG_STATES:
            found = building_keys(state)
            self.assertTrue(is_exactly(found, expected_building(state)), state)
            self.assertEqual(len(found), expected_cost(state))
            self.assertEqual(run_keys(("", 0), found), state)
            self.assertIs(is_shortest(state, found), True)

    def test_by_name(self):
        self.assertEqual(building_keys(state=("a", 0)), "a<")


class IsShortest(CallChecks):

    def test_examples_of_the_document(self):
        found = [is_shortest(("()a", 3), keys) for keys in ["()a", "(>a", "a<(", "(>ab-"]]
        self.assertEqual(found, [True, True, False, False])

    def test_the_empty_state(self):
        self.assertIs(is_shortest(("", 0), ""), True)
        for keys in ("a", "a-", "(-", "-", "<", "a<>-"):
            self.assertIs(is_shortest(("", 0), keys), False, keys)

    def test_plain_and_not_plain(self):
        for text in ("()", "[]", "{}"):
            self.assertIs(is_shortest((text, 2), text), True)
            self.assertIs(is_shortest((text, 2), text[0] + ">"), True)
            self.assertIs(is_shortest((text, 0), text), False)
            self.assertIs(is_shortest((text, 0), text[0] + "<"), True)
        self.assertIs(is_shortest((NESTED, 150), "(" * 75 + ")>" * 37 + ")"), True)
        self.assertIs(is_shortest((NESTED, 150), "(" * 75 + "]>" * 37 + "]"), False)

    def test_not_blocked_but_longer(self):
        for keys in ("ab<>", "abc-", "b<a>", "(-ab"):
            self.assertEqual(run_keys(("", 0), keys), ("ab", 2))
            self.assertIs(is_shortest(("ab", 2), keys), False, keys)
        self.assertIs(is_shortest(("a" * 150, 150), "a" * 150 + "<>"), False)

    def test_of_the_right_length_but_elsewhere(self):
        for keys in ("ba", "aa", "a<", "a(", "()", "ac"):
            self.assertIs(is_shortest(("ab", 2), keys), False, keys)
        self.assertIs(is_shortest(("a", 0), "b<"), False)
        self.assertIs(is_shortest(("()", 0), "[<"), False)
        self.assertIs(is_shortest(("ab", 1), "ab<"), True)
        self.assertIs(is_shortest(("ab", 0), "ab<"), False)

    def test_blocked(self):
        for state in (("", 0), ("a", 1), ("ab", 2), ("()", 2), ("a" * 150, 150), ("a" * 400, 400)):
            for keys, _ in BLOCKED_KEYS:
                self.assertIs(is_shortest(state, keys), False)
        self.assertIs(is_shortest(("a" * 400, 400), "a" * 399 + ">"), False)
        self.assertIs(is_shortest(("()", 2), "(]"), False)

    def test_values_of_every_kind(self):
        unlike = [keys for keys, _ in BAD_KEYS + BAD_BLOCKED_KEYS] + list(NOT_STRINGS) + bad_states()
        unlike += [["a", "b"], ("a", "b"), b"ab", {"a": 1, "b": 2}, 2, "AB", "a\u0431", [[]], ("ab", 2)]
        unlike += [Exception("ab"), 10 ** 30, float("nan"), "|", "i0", lambda: "ab", type, self]
        for state in (("", 0), ("a", 1), ("ab", 2), ("()", 2)):
            for value in unlike:
                if value not in ("", "a", "ab", "()"):
                    with self.subTest(state=state, value=value):
                        self.assertIs(is_shortest(state, value), False)

    def test_all_short_key_lists(self):
        for signs, longest in (("a(<>-", 6), ("a()<>-", 5), ("ab[]<>", 5)):
            reached = reached_by_all(signs, longest)
            fewest = {}
            for keys, state in reached.items():
                fewest.setdefault(state, len(keys))
            for keys, state in reached.items():
                self.assertIs(is_shortest(state, keys), len(keys) == fewest[state], (state, keys))

    def test_all_short_strings_for_some_states(self):
        for state in (("", 0), ("a", 0), ("()", 2), ("(a)", 3), ("a()", 1), ("a[]", 2), ("aa", 0), ("(())", 4)):
            for keys in strings_up_to("a()[<>-", 4):
                states, blocked = expected_states(("", 0), keys)
                expected = blocked is None and states[-1] == state and len(keys) == expected_cost(state)
                self.assertIs(is_shortest(state, keys), expected, (state, keys))

    def test_wrong_states(self):
        for state in bad_states():
            for value in ("", "a", "A", "]", None):
                with self.subTest(state=state, value=value):
                    self.assert_raises_exactly(InvalidStateError, is_shortest, state, value)
        self.assert_arguments_unchanged(is_shortest, "a")

    def test_no_argument_is_changed(self):
        value = ["a", ["b"]]
        self.assertIs(is_shortest(("ab", 2), value), False)
        self.assertEqual(value, ["a", ["b"]])

    def test_by_name(self):
        self.assertIs(is_shortest(state=("a", 1), value="a"), True)
        self.assertIs(is_shortest(value="a", state=("a", 1)), True)


class ShortenKeys(CallChecks):

    def test_examples_of_the_document(self):
        self.assertEqual(shorten_keys("ab<>"), "ab")

    def test_edges(self):
        for keys in ("", "a-", "(-", "(<>-", "a<>-", "({[---", "a" * 200 + "-" * 200):
            self.assertEqual(shorten_keys(keys), "", keys)
        self.assertEqual(shorten_keys("()"), "(>")
        self.assertEqual(shorten_keys("()<<"), "(<")
        self.assertEqual(shorten_keys("abc<<-"), "c<b<")
        self.assertEqual(shorten_keys("a" * 400), "a" * 400)
        self.assertEqual(shorten_keys("a<" * 200), "a<" * 200)
        self.assertEqual(shorten_keys("{" * 200 + "}" * 200), "{" * 200 + ">" * 200)

    def test_all_short_key_lists(self):
        for keys, state in reached_by_all("a([])<>-", 5).items():
            self.assertTrue(is_exactly(shorten_keys(keys), expected_building(state)), keys)

    def test_long_key_lists(self):
        for keys in wandering_lists():
            self.assertTrue(is_exactly(shorten_keys(keys), expected_building(end_of(keys))), keys)

    def test_wrong_keys(self):
        self.assert_checks_keys([shorten_keys])

    def test_by_name(self):
        self.assertEqual(shorten_keys(keys="ab-"), "a")


class WrongStates(CallChecks):

    def test_wrong_states(self):
        self.assert_checks_states(OF_STATES)


if __name__ == "__main__":
    unittest.main()
