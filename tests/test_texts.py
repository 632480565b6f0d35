"""Promises [2], [3], [5] and [6]: texts and states."""

import itertools
import unittest

from autoclosing.errors import InvalidStateError, InvalidTextError
from autoclosing.texts import enclosing_pairs, is_state, is_text, level_items, pairs_of
from tests.helpers import (
    BAD_TEXTS, LONG_TEXTS, MIXED_NESTED, NESTED, NOT_STRINGS, bad_states, expected_pairs, is_exactly, lists_in,
    reduces_to_nothing, states_up_to, strings_up_to, texts_up_to,
)


def expected_levels(state):
    """The levels: an item is in the level of the innermost pair around it."""
    text, cursor = state
    pairs = expected_pairs(text)
    items = pairs + [(index, index) for index, sign in enumerate(text) if sign.isalpha()]
    owners = [None] + [pair for pair in pairs if pair[0] < cursor <= pair[1]]
    levels = []
    for owner in owners:
        own = []
        for item in sorted(items):
            around = [pair for pair in pairs if pair[0] < item[0] and item[1] < pair[1]]
            if (max(around) if around else None) == owner:
                own.append(item)
        left = [item for item in own if item[1] < cursor]
        right = [item for item in own if item[0] >= cursor]
        levels.append((left, right))
    return levels


class IsText(unittest.TestCase):

    def test_examples_of_the_document(self):
        self.assertEqual([is_text("(a[])b"), is_text("(a[)]"), is_text(")(")], [True, False, False])

    def test_texts(self):
        for text in ("", "a", "z", "abcdefghijklmnopqrstuvwxyz", "()", "[]", "{}", "a(b)c", "([{}])", "(){}[]"):
            with self.subTest(text=text):
                self.assertIs(is_text(text), True)

    def test_every_letter_and_no_other_character(self):
        for code in range(0x3000):
            sign = chr(code)
            with self.subTest(code=code):
                self.assertIs(is_text(sign), sign in "abcdefghijklmnopqrstuvwxyz")
                self.assertIs(is_text("(" + sign + ")"), sign in "abcdefghijklmnopqrstuvwxyz")

    def test_long_and_deep_texts(self):
        for text in LONG_TEXTS:
            with self.subTest(text=text):
                self.assertEqual(len(text), 150)
                self.assertIs(is_text(text), True)
                self.assertIs(is_text(text[:-1] + "("), False)
                self.assertIs(is_text(text + ")"), False)
        self.assertIs(is_text(NESTED[:-1]), False)
        self.assertIs(is_text(NESTED[1:]), False)
        self.assertIs(is_text("(" * 74 + "[" + ")" * 75), False)

    def test_a_text_may_have_any_length(self):
        self.assertIs(is_text("(" * 3000 + "a" * 3000 + ")" * 3000), True)
        self.assertIs(is_text("(" * 3000 + "a" * 3000 + ")" * 2999), False)

    def test_other_strings(self):
        for value in BAD_TEXTS:
            with self.subTest(value=value):
                self.assertIs(is_text(value), False)

    def test_any_other_value(self):
        for value in NOT_STRINGS:
            with self.subTest(value=value):
                self.assertIs(is_text(value), False)

    def test_all_short_strings(self):
        for value in strings_up_to("a()[]", 6):
            self.assertIs(is_text(value), reduces_to_nothing(value), value)
        for value in strings_up_to("([{}])", 5):
            self.assertIs(is_text(value), reduces_to_nothing(value), value)

    def test_by_name(self):
        self.assertIs(is_text(value="()"), True)


class IsState(unittest.TestCase):

    def test_examples_of_the_document(self):
        self.assertEqual([is_state(("()", 2)), is_state(("()", 3))], [True, False])

    def test_every_cursor_from_zero_to_the_length(self):
        for text in ("", "a", "()", "(a)b", "([{}])") + LONG_TEXTS:
            for cursor in range(-3, len(text) + 4):
                with self.subTest(text=text, cursor=cursor):
                    self.assertIs(is_state((text, cursor)), 0 <= cursor <= len(text))

    def test_any_other_value(self):
        for value in bad_states():
            with self.subTest(value=value):
                self.assertIs(is_state(value), False)

    def test_by_name(self):
        self.assertIs(is_state(value=("", 0)), True)


class PairsOf(unittest.TestCase):

    def test_examples_of_the_document(self):
        self.assertEqual(pairs_of("(a)b[]"), [(0, 2), (4, 5)])

    def test_edges(self):
        self.assertEqual(pairs_of(""), [])
        self.assertEqual(pairs_of("abc"), [])
        self.assertEqual(pairs_of("{[()]}"), [(0, 5), (1, 4), (2, 3)])
        self.assertEqual(pairs_of("(()[])"), [(0, 5), (1, 2), (3, 4)])
        self.assertEqual(pairs_of(NESTED), [(index, 149 - index) for index in range(75)])
        self.assertEqual(pairs_of(MIXED_NESTED), [(index, 149 - index) for index in range(75)])
        self.assertEqual(pairs_of("{}" * 75), [(index, index + 1) for index in range(0, 150, 2)])
        self.assertEqual(pairs_of("a" * 150), [])

    def test_all_short_texts(self):
        for text in texts_up_to("a()[]", 6):
            self.assertTrue(is_exactly(pairs_of(text), expected_pairs(text)), text)

    def test_wrong_texts(self):
        for text in BAD_TEXTS + NOT_STRINGS:
            with self.subTest(text=text):
                with self.assertRaises(InvalidTextError) as caught:
                    pairs_of(text)
                self.assertIs(type(caught.exception), InvalidTextError)

    def test_by_name(self):
        self.assertEqual(pairs_of(text="()"), [(0, 1)])

    def test_each_list_is_new(self):
        first = pairs_of("(a)b[]")
        first.clear()
        self.assertEqual(pairs_of("(a)b[]"), [(0, 2), (4, 5)])
        self.assertIsNot(pairs_of(""), pairs_of(""))


class EnclosingPairs(unittest.TestCase):

    def test_examples_of_the_document(self):
        self.assertEqual(enclosing_pairs(("(a[b])c", 4)), [(0, 5), (2, 4)])

    def test_edges(self):
        self.assertEqual(enclosing_pairs(("", 0)), [])
        self.assertEqual([enclosing_pairs(("()", cursor)) for cursor in range(3)], [[], [(0, 1)], []])
        self.assertEqual([enclosing_pairs(("{[]}", cursor)) for cursor in range(5)],
                         [[], [(0, 3)], [(0, 3), (1, 2)], [(0, 3)], []])
        self.assertEqual(enclosing_pairs(("a(b)[c]", 4)), [])
        self.assertEqual(enclosing_pairs((NESTED, 75)), [(index, 149 - index) for index in range(75)])
        self.assertEqual(enclosing_pairs((NESTED, 0)), [])
        self.assertEqual(enclosing_pairs((NESTED, 150)), [])
        self.assertEqual(enclosing_pairs((MIXED_NESTED, 149)), [(0, 149)])

    def test_all_small_states(self):
        for text, cursor in states_up_to("a()[]", 6):
            expected = [pair for pair in expected_pairs(text) if pair[0] < cursor <= pair[1]]
            self.assertTrue(is_exactly(enclosing_pairs((text, cursor)), expected), (text, cursor))

    def test_wrong_states(self):
        for state in bad_states():
            with self.subTest(state=state):
                with self.assertRaises(InvalidStateError) as caught:
                    enclosing_pairs(state)
                self.assertIs(type(caught.exception), InvalidStateError)

    def test_by_name(self):
        self.assertEqual(enclosing_pairs(state=("()", 1)), [(0, 1)])

    def test_each_list_is_new(self):
        enclosing_pairs(("()", 1)).clear()
        self.assertEqual(enclosing_pairs(("()", 1)), [(0, 1)])


class LevelItems(unittest.TestCase):

    def test_examples_of_the_document(self):
        self.assertEqual(level_items(("a(b)c", 2)), [([(0, 0)], [(4, 4)]), ([], [(2, 2)])])

    def test_edges(self):
        self.assertEqual(level_items(("", 0)), [([], [])])
        self.assertEqual(level_items(("()", 0)), [([], [(0, 1)])])
        self.assertEqual(level_items(("()", 1)), [([], []), ([], [])])
        self.assertEqual(level_items(("()", 2)), [([(0, 1)], [])])
        self.assertEqual(level_items(("a(b[c])d{e}", 11)), [([(0, 0), (1, 6), (7, 7), (8, 10)], [])])
        self.assertEqual(level_items(("a(b[c])d{e}", 3)), [([(0, 0)], [(7, 7), (8, 10)]), ([(2, 2)], [(3, 5)])])
        self.assertEqual(level_items((NESTED, 75)), [([], [])] * 76)
        self.assertEqual(level_items((NESTED, 0)), [([], [(0, 149)])])
        self.assertEqual(level_items(("a" * 150, 70)),
                         [([(index, index) for index in range(70)], [(index, index) for index in range(70, 150)])])

    def test_all_small_states(self):
        small = itertools.chain(states_up_to("a()[]", 6), states_up_to("a{}", 7))
        for state in small:
            self.assertTrue(is_exactly(level_items(state), expected_levels(state)), state)

    def test_wrong_states(self):
        for state in bad_states():
            with self.subTest(state=state):
                with self.assertRaises(InvalidStateError) as caught:
                    level_items(state)
                self.assertIs(type(caught.exception), InvalidStateError)

    def test_by_name(self):
        self.assertEqual(level_items(state=("a", 1)), [([(0, 0)], [])])

    def test_no_two_lists_are_the_same(self):
        for state in (("", 0), ("()", 1), ("(([{}]))", 4), ("a(b(c)d)e", 5), (NESTED, 75)):
            found = lists_in([level_items(state), level_items(state)])
            self.assertEqual(len({id(one) for one in found}), len(found))

    def test_changing_a_result_changes_no_later_one(self):
        levels = level_items(("a(b)c", 2))
        levels[0][0].append(1)
        levels[1][0].append(2)
        levels.pop()
        self.assertEqual(level_items(("a(b)c", 2)), [([(0, 0)], [(4, 4)]), ([], [(2, 2)])])


class Arguments(unittest.TestCase):

    def test_no_argument_is_changed(self):
        for function in (is_text, is_state, pairs_of, enclosing_pairs, level_items):
            value = ["a", 1, ["("]]
            state = (["(", ")"], [1])
            for argument in (value, state):
                try:
                    function(argument)
                except (InvalidTextError, InvalidStateError):
                    pass
            self.assertEqual(value, ["a", 1, ["("]])
            self.assertEqual(state, (["(", ")"], [1]))


if __name__ == "__main__":
    unittest.main()
