"""Promises [2], [3], [9], [10] and [15]: editors."""

import unittest
from unittest import mock

from autoclosing.editor import Editor
from autoclosing.errors import BlockedKeyError, EmptyHistoryError, InvalidKeysError
from autoclosing.shortest import building_keys
from tests.helpers import (
    BAD_BLOCKED_KEYS, BAD_KEYS, BLOCKED_KEYS, NOT_STRINGS, CallChecks, end_of, expected_after, expected_cost,
    is_exactly, reached_by_all, states_up_to, wandering_keys, wandering_lists,
)


def editor_with(pressed, undone=0):
    """An editor in which these keys are pressed, and so many of them then undone."""
    editor = Editor()
    editor.press(pressed)
    for _ in range(undone):
        editor.undo()
    return editor


def undone_keys(editor):
    """The keys that the editor would press again, the first one first: found with a duplicate."""
    other = editor.duplicate()
    many = len(other)
    while True:
        try:
            other.redo()
        except EmptyHistoryError:
            return other.pressed()[many:]


class Model:
    """An editor, told again: all keys in one list, of which the first many are pressed."""

    def __init__(self):
        self.keys = []
        self.many = 0

    def press(self, keys):
        if keys:
            self.keys = self.keys[:self.many] + list(keys)
            self.many = len(self.keys)

    def undo(self):
        self.many -= 1

    def redo(self):
        self.many += 1

    def tidy(self):
        self.keys = list(building_keys(self.state()))
        self.many = len(self.keys)

    def state(self):
        return end_of(self.keys[:self.many])


class EditorChecks(CallChecks):
    """What the tests of several methods ask for in the same way."""

    def assert_editor(self, editor, pressed, undone=""):
        """The editor has these pressed keys, and all that follows from them, and these undone keys."""
        state = end_of(pressed)
        self.assertTrue(is_exactly(editor.state(), state), editor.state())
        self.assertTrue(is_exactly(editor.pressed(), pressed), editor.pressed())
        self.assertTrue(is_exactly(editor.wasted(), len(pressed) - expected_cost(state)), editor.wasted())
        self.assertTrue(is_exactly(len(editor), len(pressed)))
        self.assertEqual(undone_keys(editor), undone)


class NewEditors(EditorChecks):

    def test_examples_of_the_document(self):
        self.assertEqual(Editor().state(), ("", 0))

    def test_nothing_is_pressed(self):
        editor = Editor()
        self.assert_editor(editor, "")
        self.assertTrue(is_exactly([editor.pressed(), editor.wasted(), len(editor)], ["", 0, 0]))

    def test_each_editor_is_its_own(self):
        one = Editor()
        one.press("a")
        self.assert_editor(Editor(), "")
        self.assert_editor(one, "a")

    def test_no_arguments(self):
        self.assertRaises(TypeError, Editor, "a")


class Press(EditorChecks):

    def test_examples_of_the_document(self):
        editor = Editor()
        editor.press("(a")
        editor.press(">b")
        self.assertEqual(editor.state(), ("(a)b", 4))

    def test_returns_none(self):
        editor = Editor()
        for keys in ("", "a", "(", "ab<>-"):
            self.assertIsNone(editor.press(keys))

    def test_all_short_key_lists(self):
        for keys in reached_by_all("a()<>-", 5):
            self.assert_editor(editor_with(keys), keys)

    def test_key_by_key(self):
        for keys in wandering_lists():
            editor = Editor()
            state = ("", 0)
            for many, key in enumerate(keys, 1):
                editor.press(key)
                state = expected_after(state, key)
                self.assertEqual((editor.state(), len(editor)), (state, many))
            self.assert_editor(editor, keys)

    def test_400_keys_at_once(self):
        for keys in wandering_lists() + ["a" * 400, "(" * 400, "(" * 200 + ")" * 200, "a" * 200 + "-" * 200]:
            self.assert_editor(editor_with(keys), keys)

    def test_the_undone_keys_are_forgotten(self):
        for keys in ("a", "b", "(", "ab", "<"):
            editor = editor_with("abc", 2)
            editor.press(keys)
            self.assert_editor(editor, "a" + keys)
            self.assert_raises_exactly(EmptyHistoryError, editor.redo)

    def test_the_empty_key_list_changes_nothing(self):
        editor = Editor()
        editor.press("")
        self.assert_editor(editor, "")
        editor.press("ab")
        editor.press("")
        self.assert_editor(editor, "ab")
        editor.undo()
        editor.press("")
        self.assert_editor(editor, "a", "b")
        editor.redo()
        self.assert_editor(editor, "ab")

    def test_if_a_key_is_blocked_none_is_pressed(self):
        for keys, index in BLOCKED_KEYS:
            editor = Editor()
            error = self.assert_raises_exactly(BlockedKeyError, editor.press, keys)
            self.assertTrue(is_exactly(error.index, index), keys)
            self.assert_editor(editor, "")
        for keys, index in (("]", 0), (")>", 1), ("bc}", 2), ("b>>", 2), ("-b---", 4), ("b" * 390 + "]", 390)):
            editor = editor_with("(ab", 1)
            error = self.assert_raises_exactly(BlockedKeyError, editor.press, keys)
            self.assertTrue(is_exactly(error.index, index), keys)
            self.assert_editor(editor, "(a", "b")
            editor.redo()
            self.assert_editor(editor, "(ab")

    def test_what_is_no_key_list(self):
        for editor, pressed, undone in ((Editor(), "", ""), (editor_with("(ab", 2), "(", "ab")):
            for keys, index in BAD_KEYS + BAD_BLOCKED_KEYS:
                error = self.assert_raises_exactly(InvalidKeysError, editor.press, keys)
                self.assertTrue(is_exactly(error.index, index), keys)
            for keys in NOT_STRINGS:
                self.assertIsNone(self.assert_raises_exactly(InvalidKeysError, editor.press, keys).index)
            self.assert_editor(editor, pressed, undone)
        self.assert_arguments_unchanged(Editor().press)

    def test_by_name(self):
        editor = Editor()
        editor.press(keys="a<")
        self.assertEqual(editor.pressed(), "a<")


class Undo(EditorChecks):

    def test_examples_of_the_document(self):
        editor = Editor()
        editor.press("(a")
        editor.undo()
        self.assertEqual(editor.state(), ("()", 1))

    def test_returns_none(self):
        self.assertIsNone(editor_with("a").undo())

    def test_each_key(self):
        for keys in ("a", "(", "a<", "a<>", "()", "(>", "[]", "{}", "a-", "(-", "[-", "{-", "b(<>-", "(ab<-"):
            editor = editor_with(keys)
            editor.undo()
            self.assert_editor(editor, keys[:-1], keys[-1])

    def test_what_was_deleted_is_there_again(self):
        editor = editor_with("x(y-")
        editor.undo()
        self.assertEqual(editor.state(), ("x(y)", 3))
        editor = editor_with("x[-")
        editor.undo()
        self.assertEqual(editor.state(), ("x[]", 2))

    def test_back_to_the_empty_state_and_forth_again(self):
        for keys in wandering_lists()[:6]:
            editor = editor_with(keys[:150])
            for many in range(149, -1, -1):
                editor.undo()
                self.assertEqual(editor.pressed(), keys[:many])
                if many % 10 == 0:
                    self.assert_editor(editor, keys[:many], keys[many:150])
            self.assert_raises_exactly(EmptyHistoryError, editor.undo)
            for many in range(1, 151):
                editor.redo()
                self.assertEqual(editor.pressed(), keys[:many])
            self.assert_editor(editor, keys[:150])
            self.assert_raises_exactly(EmptyHistoryError, editor.redo)

    def test_one_of_400_keys(self):
        for keys in wandering_lists()[:6]:
            editor = editor_with(keys, 1)
            self.assert_editor(editor, keys[:399], keys[399])

    def test_nothing_to_undo(self):
        editor = Editor()
        self.assert_raises_exactly(EmptyHistoryError, editor.undo)
        self.assert_editor(editor, "")
        editor = editor_with("ab", 2)
        self.assert_raises_exactly(EmptyHistoryError, editor.undo)
        self.assert_editor(editor, "", "ab")
        editor = editor_with("")
        self.assert_raises_exactly(EmptyHistoryError, editor.undo)
        # Keys that lead back to the empty state are pressed keys all the same.
        editor = editor_with("a-", 1)
        self.assert_editor(editor, "a", "-")

    def test_the_key_alone_is_undone(self):
        editor = Editor()
        editor.press("abc")
        editor.press("de")
        editor.undo()
        self.assert_editor(editor, "abcd", "e")


class Redo(EditorChecks):

    def test_examples_of_the_document(self):
        editor = Editor()
        editor.press("(a")
        editor.undo()
        editor.redo()
        self.assertEqual(editor.pressed(), "(a")

    def test_returns_none(self):
        self.assertIsNone(editor_with("a", 1).redo())

    def test_the_key_that_was_undone_last_comes_first(self):
        editor = editor_with("a(b", 3)
        for pressed, undone in (("a", "(b"), ("a(", "b"), ("a(b", "")):
            editor.redo()
            self.assert_editor(editor, pressed, undone)

    def test_undo_after_redo(self):
        editor = editor_with("a(b", 3)
        editor.redo()
        editor.redo()
        editor.undo()
        self.assert_editor(editor, "a", "(b")

    def test_nothing_to_redo(self):
        for editor, pressed in ((Editor(), ""), (editor_with("ab"), "ab"), (editor_with(""), "")):
            self.assert_raises_exactly(EmptyHistoryError, editor.redo)
            self.assert_editor(editor, pressed)
        editor = editor_with("ab", 1)
        editor.redo()
        self.assert_raises_exactly(EmptyHistoryError, editor.redo)
        self.assert_editor(editor, "ab")

    def test_after_press(self):
        editor = editor_with("ab", 1)
        editor.press("b")
        self.assert_raises_exactly(EmptyHistoryError, editor.redo)
        self.assert_editor(editor, "ab")
        # An undo after it gives a key again, but not those that were forgotten.
        editor.undo()
        self.assert_editor(editor, "a", "b")

    def test_after_a_press_of_the_empty_key_list(self):
        editor = editor_with("ab", 1)
        editor.press("")
        editor.redo()
        self.assert_editor(editor, "ab")

    def test_after_a_press_that_raised(self):
        for keys in ("]", "cd]", ">", "A", "c D", None, ["b"], b"b", 1):
            editor = editor_with("ab", 1)
            self.assertRaises((BlockedKeyError, InvalidKeysError), editor.press, keys)
            editor.redo()
            self.assert_editor(editor, "ab")

    def test_after_tidy(self):
        for undone in range(3):
            editor = editor_with("ab", undone)
            editor.tidy()
            self.assert_raises_exactly(EmptyHistoryError, editor.redo)
            self.assert_editor(editor, "ab"[:2 - undone])

    def test_after_an_undo_and_a_redo_that_raised(self):
        editor = editor_with("ab", 2)
        self.assert_raises_exactly(EmptyHistoryError, editor.undo)
        editor.redo()
        self.assert_editor(editor, "a", "b")
        editor.redo()
        self.assert_raises_exactly(EmptyHistoryError, editor.redo)
        editor.undo()
        self.assert_editor(editor, "a", "b")

    def test_the_same_keys_do_the_same_again(self):
        for keys in ("ab<-", "(a<>-", "x(-", "()<<", "a<(b>"):
            editor = editor_with(keys, len(keys))
            for many in range(1, len(keys) + 1):
                editor.redo()
                self.assert_editor(editor, keys[:many], keys[many:])


class WhatItTells(EditorChecks):

    def test_examples_of_the_document(self):
        self.assertEqual(Editor().state(), ("", 0))
        editor = Editor()
        editor.press("a<")
        self.assertEqual(editor.pressed(), "a<")
        editor = Editor()
        editor.press("ab<>")
        self.assertEqual(editor.wasted(), 2)

    def test_wasted(self):
        for keys, wasted in (("", 0), ("a", 0), ("a-", 2), ("(-", 2), ("()", 0), ("()<>", 2), ("a<", 0), ("a<>", 2),
                             ("a" * 400, 0), ("a" * 200 + "-" * 200, 400), ("()" * 200, 0), ("a<>" * 133, 266)):
            self.assertTrue(is_exactly(editor_with(keys).wasted(), wasted), keys)

    def test_wasted_is_even_and_not_below_0(self):
        for keys in list(reached_by_all("a(<>-", 6)) + wandering_lists():
            wasted = editor_with(keys).wasted()
            self.assertEqual(wasted % 2, 0)
            self.assertGreaterEqual(wasted, 0)
            self.assertEqual(wasted, len(keys) - expected_cost(end_of(keys)))

    def test_asking_changes_nothing(self):
        editor = editor_with("(ab<-", 2)
        for _ in range(2):
            found = (editor.state(), editor.pressed(), editor.wasted(), len(editor))
            self.assertEqual(found, (("(ab)", 3), "(ab", 0, 3))
            self.assertTrue(editor == editor.duplicate())
        self.assert_editor(editor, "(ab", "<-")

    def test_the_length(self):
        self.assertEqual(len(Editor()), 0)
        self.assertEqual([len(editor_with("ab<>", undone)) for undone in range(5)], [4, 3, 2, 1, 0])
        self.assertEqual(len(editor_with("a" * 400)), 400)


class Tidy(EditorChecks):

    def test_examples_of_the_document(self):
        editor = Editor()
        editor.press("ab<>")
        editor.tidy()
        self.assertEqual(editor.pressed(), "ab")

    def test_returns_none(self):
        self.assertIsNone(Editor().tidy())
        self.assertIsNone(editor_with("a-").tidy())

    def test_the_building_list_is_pressed_instead(self):
        for keys, tidied in (("", ""), ("a-", ""), ("(-", ""), ("()", "(>"), ("()<<", "(<"), ("a<", "a<"),
                             ("abc<<-", "c<b<"), ("ab<>", "ab"), ("b<a", "b<a"), ("{" * 200 + "}" * 200,
                                                                                "{" * 200 + ">" * 200)):
            editor = editor_with(keys)
            state = editor.state()
            editor.tidy()
            self.assertEqual(editor.state(), state)
            self.assert_editor(editor, tidied)
            self.assertEqual(editor.wasted(), 0)

    def test_all_short_and_some_long_key_lists(self):
        for keys in list(reached_by_all("a([)<>-", 4)) + wandering_lists():
            editor = editor_with(keys)
            editor.tidy()
            self.assertEqual((editor.state(), editor.pressed()), (end_of(keys), building_keys(end_of(keys))))
            self.assert_editor(editor, editor.pressed())

    def test_later_calls_of_undo_undo_the_keys_of_the_building_list(self):
        editor = editor_with("()ab<<")
        editor.tidy()
        self.assertEqual(editor.pressed(), "b<a<(>")
        for many in range(5, -1, -1):
            editor.undo()
            self.assert_editor(editor, "b<a<(>"[:many], "b<a<(>"[many:])
        for many in range(1, 7):
            editor.redo()
            self.assert_editor(editor, "b<a<(>"[:many], "b<a<(>"[many:])

    def test_twice(self):
        editor = editor_with("ab<>(-")
        editor.tidy()
        editor.tidy()
        self.assert_editor(editor, "ab")

    def test_the_undone_keys_are_forgotten_even_if_nothing_else_changes(self):
        editor = editor_with("ab", 1)
        editor.tidy()
        self.assert_editor(editor, "a", "")
        editor = editor_with("ab", 2)
        editor.tidy()
        self.assert_editor(editor, "", "")

    def test_going_on(self):
        editor = editor_with("ab<>")
        editor.tidy()
        editor.press("-(")
        self.assert_editor(editor, "ab-(")
        editor.tidy()
        self.assert_editor(editor, "a(")


class Duplicate(EditorChecks):

    def test_examples_of_the_document(self):
        editor = Editor()
        other = editor.duplicate()
        other.press("a")
        self.assertEqual(editor.state(), ("", 0))

    def test_it_is_a_new_editor(self):
        for editor in (Editor(), editor_with("a"), editor_with("ab", 1)):
            other = editor.duplicate()
            self.assertIs(type(other), Editor)
            self.assertIsNot(other, editor)

    def test_the_same_pressed_and_undone_keys(self):
        for keys in ("", "a", "ab<>", "(a", "(ab<->"):
            for undone in range(len(keys) + 1):
                editor = editor_with(keys, undone)
                many = len(keys) - undone
                self.assert_editor(editor.duplicate(), keys[:many], keys[many:])
                self.assert_editor(editor.duplicate().duplicate(), keys[:many], keys[many:])
                self.assert_editor(editor, keys[:many], keys[many:])

    def test_the_two_are_independent(self):
        changes = (lambda editor: editor.press("x("), lambda editor: editor.undo(), lambda editor: editor.redo(),
                   lambda editor: editor.tidy())
        for change in changes:
            for changed, left_alone in ((0, 1), (1, 0)):
                editor = editor_with("a<>(b", 1)
                both = (editor, editor.duplicate())
                change(both[changed])
                self.assert_editor(both[left_alone], "a<>(", "b")
                self.assertNotEqual((both[changed].pressed(), undone_keys(both[changed])), ("a<>(", "b"))
                change(both[left_alone])
                self.assertEqual(both[0].pressed(), both[1].pressed())
                self.assertEqual(undone_keys(both[0]), undone_keys(both[1]))

    def test_with_400_keys(self):
        for keys in wandering_lists()[:4]:
            self.assert_editor(editor_with(keys, 3).duplicate(), keys[:397], keys[397:])


class Equality(EditorChecks):

    def assert_equal_editors(self, one, other, expected):
        """The two are equal, or not, in all ways to ask for it."""
        self.assertIs(one == other, expected)
        self.assertIs(other == one, expected)
        self.assertIs(one != other, not expected)
        self.assertIs(other != one, not expected)

    def test_equal_states(self):
        self.assert_equal_editors(Editor(), Editor(), True)
        for one, other in (("a", "a"), ("", "a-"), ("ab", "b<a>"), ("()", "(>"), ("()", "(><>"), ("a<", "a<")):
            self.assert_equal_editors(editor_with(one), editor_with(other), True)
        # The pressed keys and the undone keys do not matter.
        self.assert_equal_editors(editor_with("ab", 1), editor_with("a"), True)
        self.assert_equal_editors(editor_with("ab", 2), Editor(), True)

    def test_states_that_are_not_equal(self):
        for one, other in (("", "a"), ("a", "b"), ("a", "a<"), ("()", "[]"), ("(", "()"), ("ab", "ba"), ("aa", "a")):
            self.assert_equal_editors(editor_with(one), editor_with(other), False)
        self.assert_equal_editors(editor_with("ab", 1), editor_with("ab"), False)

    def test_all_small_states(self):
        editors = [(state, editor_with(building_keys(state))) for state in states_up_to("a()", 4)]
        for one, editor in editors:
            for two, other in editors:
                self.assertIs(editor == other, one == two)
                self.assertIs(editor != other, one != two)

    def test_itself_and_its_duplicate(self):
        editor = editor_with("(ab", 1)
        self.assert_equal_editors(editor, editor, True)
        other = editor.duplicate()
        self.assert_equal_editors(editor, other, True)
        other.press("x")
        self.assert_equal_editors(editor, other, False)
        other.undo()
        self.assert_equal_editors(editor, other, True)
        other.press("<>")
        other.tidy()
        self.assert_equal_editors(editor, other, True)

    def test_other_values(self):
        for editor in (Editor(), editor_with("a"), editor_with("()", 1)):
            values = list(NOT_STRINGS) + ["", "a", "()", editor.state(), editor.pressed(), len(editor), [editor],
                                          (editor,), Editor, type(editor), [*editor.state()], {"a": editor}]
            for value in values:
                with self.subTest(value=value):
                    self.assert_equal_editors(editor, value, False)

    def test_values_that_look_like_an_editor(self):
        class Lookalike:
            """A class of its own, with the methods of an editor."""
            press, undo, redo, state = Editor.press, Editor.undo, Editor.redo, Editor.state
            __len__ = Editor.__len__

        for editor in (Editor(), editor_with("(a")):
            value = Lookalike()
            vars(value).update(vars(editor))
            self.assertEqual(value.state(), editor.state())
            self.assert_equal_editors(editor, value, False)

    def test_values_that_are_equal_to_everything(self):
        self.assertIs(editor_with("a") == mock.ANY, False)
        self.assertIs(editor_with("a") != mock.ANY, True)


class Sessions(EditorChecks):

    def test_many_calls_against_a_model(self):
        for seed in range(1, 9):
            self.run_session(seed)

    def run_session(self, seed):
        """300 calls of press, undo, redo and tidy, with 400 keys at most, against the model."""
        editor, model = Editor(), Model()
        number = seed
        left = 400
        for _ in range(300):
            number = (number * 1103515245 + 12345) % 2 ** 31
            choice = number // 65536 % 10
            if choice < 5 and left > 3:
                keys = self.keys_that_go_on(model.state(), number // 1024)
                left -= len(keys)
                self.assertIsNone(editor.press(keys))
                model.press(keys)
            elif choice < 7 or choice < 9 and model.many == len(model.keys):
                self.call_both(editor, model, "undo", model.many > 0)
            elif choice < 9:
                self.call_both(editor, model, "redo", model.many < len(model.keys))
            elif number // 65536 % 4 == 1:
                self.call_both(editor, model, "tidy", True)
            else:
                self.assert_raises_exactly(InvalidKeysError, editor.press, "a?")
                self.assert_raises_exactly(BlockedKeyError, editor.press, self.keys_that_stop(model.state()))
            self.assertEqual((editor.pressed(), editor.state()), ("".join(model.keys[:model.many]), model.state()))
        self.assert_editor(editor, "".join(model.keys[:model.many]), "".join(model.keys[model.many:]))

    def keys_that_go_on(self, state, number):
        """Up to three keys, none of them blocked in this state."""
        keys = ""
        for turn in range(number % 4):
            key = "ab(<>-)[{<"[number // 4 ** (turn + 1) % 10]
            following = expected_after(state, key)
            if following is not None:
                keys, state = keys + key, following
        return keys

    def keys_that_stop(self, state):
        """Two keys, of which the second one is blocked in this state."""
        text, cursor = state
        return "a]" if text[cursor:cursor + 1] != "]" else "a)"

    def call_both(self, editor, model, name, is_possible):
        """Call a method of both, or ask for the error if it is not possible."""
        if is_possible:
            self.assertIsNone(getattr(editor, name)())
            getattr(model, name)()
        else:
            self.assert_raises_exactly(EmptyHistoryError, getattr(editor, name))

    def test_pressing_is_the_same_in_one_go_and_in_parts(self):
        for seed in range(1, 4):
            keys = wandering_keys(seed, "abc([{)]}<>-", 400)
            for size in (1, 7, 133, 399):
                editor = Editor()
                for first in range(0, 400, size):
                    editor.press(keys[first:first + size])
                self.assert_editor(editor, keys)
                self.assertTrue(editor == editor_with(keys))


if __name__ == "__main__":
    unittest.main()
