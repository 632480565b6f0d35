"""Promises [2], [3] and [12]: roles of keys."""

import unittest

from autoclosing.costs import cost
from autoclosing.roles import idle_keys, needed_roles, roles_of
from autoclosing.shortest import building_keys, shorten_keys
from tests.helpers import (
    LONG_TEXTS, NESTED, CallChecks, end_of, expected_pairs, is_exactly, reached_by_all, states_up_to, wandering_lists,
)

OF_KEYS = (roles_of, idle_keys)


class Character:
    """A character that keeps its identity, with the keys that inserted it and moved over it."""

    def __init__(self, sign, inserted):
        self.sign = sign
        self.inserted = inserted
        self.moved = []
        self.partner = None


def press_on(left, right, key, position):
    """Press a key that is not blocked: the ends of the two lists are beside the cursor."""
    if key.isalpha():
        left.append(Character(key, position))
    elif key in "([{":
        left.append(Character(key, position))
        right.append(Character(")]}"["([{".index(key)], position))
        left[-1].partner = right[-1]
    elif key == "-":
        if not left.pop().sign.isalpha():
            right.pop()
    else:
        source, aim = (left, right) if key == "<" else (right, left)
        source[-1].moved.append(position)
        aim.append(source.pop())


def expected_roles(keys):
    """The roles of all keys, by the words of [12]."""
    left, right = [], []
    for position, key in enumerate(keys):
        press_on(left, right, key, position)
    text = left + right[::-1]
    roles = [None for _ in keys]
    for index, character in enumerate(text):
        if character.sign not in ")]}":
            roles[character.inserted] = ("insert", index)
        if character.sign.isalpha() and index >= len(left):
            roles[character.moved[-1]] = ("pass", index)
        if character.sign in "([{":
            if not (index < len(left) <= text.index(character.partner)):
                roles[max(character.moved + character.partner.moved)] = ("exit", index)
    return roles


def expected_needed(state):
    """The roles that a state needs, in ascending order."""
    text, cursor = state
    roles = [("insert", index) for index, sign in enumerate(text) if sign not in ")]}"]
    roles += [("pass", index) for index, sign in enumerate(text) if index >= cursor and sign.isalpha()]
    roles += [("exit", first) for first, last in expected_pairs(text) if cursor <= first or last < cursor]
    return sorted(roles)


class RolesOf(CallChecks):

    def test_examples_of_the_document(self):
        self.assertEqual(roles_of("b<(a"), [("insert", 3), ("pass", 3), ("insert", 0), ("insert", 1)])
        self.assertEqual(roles_of("()<>"), [("insert", 0), None, None, ("exit", 0)])

    def test_edges(self):
        self.assertEqual(roles_of(""), [])
        self.assertEqual(roles_of("a"), [("insert", 0)])
        self.assertEqual(roles_of("a-"), [None, None])
        self.assertEqual(roles_of("(-"), [None, None])
        self.assertEqual(roles_of("a-a"), [None, None, ("insert", 0)])
        self.assertEqual(roles_of("a<"), [("insert", 0), ("pass", 0)])
        self.assertEqual(roles_of("a<><"), [("insert", 0), None, None, ("pass", 0)])
        self.assertEqual(roles_of("a<>"), [("insert", 0), None, None])
        for text in ("()", "[]", "{}"):
            self.assertEqual(roles_of(text[0]), [("insert", 0)])
            self.assertEqual(roles_of(text), [("insert", 0), ("exit", 0)])
            self.assertEqual(roles_of(text[0] + ">"), [("insert", 0), ("exit", 0)])
            self.assertEqual(roles_of(text[0] + "<"), [("insert", 0), ("exit", 0)])
            self.assertEqual(roles_of(text + "<"), [("insert", 0), None, None])
            self.assertEqual(roles_of(text + "<-"), [None, None, None, None])
            self.assertEqual(roles_of(text + "<<"), [("insert", 0), None, None, ("exit", 0)])
            self.assertEqual(roles_of(text * 2), [("insert", 0), ("exit", 0), ("insert", 2), ("exit", 2)])

    def test_a_character_keeps_its_identity(self):
        self.assertEqual(roles_of("ab<-b"), [None, ("insert", 1), ("pass", 1), None, ("insert", 0)])
        self.assertEqual(roles_of("a<a-a"), [("insert", 1), ("pass", 1), None, None, ("insert", 0)])
        self.assertEqual(roles_of("()<-()"), [None, None, None, None, ("insert", 0), ("exit", 0)])
        # The inner pair was left, but the last key over one of its brackets led into it again.
        self.assertEqual(roles_of("(()<"), [("insert", 0), ("insert", 1), None, None])
        # Both brackets of the pair were moved over: the last of these keys counts.
        self.assertEqual(roles_of("(<>>"), [("insert", 0), None, None, ("exit", 0)])
        self.assertEqual(roles_of("(><<"), [("insert", 0), None, None, ("exit", 0)])
        self.assertEqual(roles_of("(a><<<b"), [("insert", 1), ("insert", 2), None, None, ("pass", 2), ("exit", 1),
                                               ("insert", 0)])

    def test_long_lists(self):
        self.assertEqual(roles_of("a" * 400), [("insert", index) for index in range(400)])
        self.assertEqual(roles_of("a" * 200 + "-" * 200), [None] * 400)
        exits = [("exit", index) for index in range(199, -1, -1)]
        self.assertEqual(roles_of("([" * 100 + "])" * 100), [("insert", index) for index in range(200)] + exits)
        self.assertEqual(roles_of("a<" * 200), [(role, index) for index in range(199, -1, -1)
                                                for role in ("insert", "pass")])
        for keys in wandering_lists():
            self.assertTrue(is_exactly(roles_of(keys), expected_roles(keys)), keys)

    def test_all_short_key_lists(self):
        for signs, longest in (("a(<>-", 7), ("a()[]<>-", 5), ("(){}<-", 6)):
            for keys in reached_by_all(signs, longest):
                self.assertTrue(is_exactly(roles_of(keys), expected_roles(keys)), keys)

    def test_each_list_is_new(self):
        for keys in ("", "b<(a", "()<>", "a" * 400):
            self.assert_new_lists(roles_of, keys)

    def test_by_name(self):
        self.assertEqual(roles_of(keys="a"), [("insert", 0)])


class IdleKeys(CallChecks):

    def test_examples_of_the_document(self):
        self.assertEqual(idle_keys("ab<>"), [2, 3])

    def test_edges(self):
        found = [idle_keys(keys) for keys in ("", "a", "a-", "(-", "()<>", "()", "a<", "a<>", "ab<-b", "(()<")]
        self.assertEqual(found, [[], [], [0, 1], [0, 1], [1, 2], [], [], [1, 2], [0, 3], [2, 3]])
        self.assertEqual(idle_keys("a" * 400), [])
        self.assertEqual(idle_keys("{" * 200 + "-" * 200), list(range(400)))

    def test_short_and_long_key_lists(self):
        for keys in list(reached_by_all("a([])<>-", 5)) + wandering_lists():
            expected = [position for position, role in enumerate(expected_roles(keys)) if role is None]
            self.assertTrue(is_exactly(idle_keys(keys), expected), keys)

    def test_each_list_is_new(self):
        for keys in ("", "ab<>", "a" * 200 + "-" * 200):
            self.assert_new_lists(idle_keys, keys)

    def test_by_name(self):
        self.assertEqual(idle_keys(keys="a-"), [0, 1])


class NeededRoles(CallChecks):

    def test_examples_of_the_document(self):
        self.assertEqual(needed_roles(("(a)b", 2)), [("insert", 0), ("insert", 1), ("insert", 3), ("pass", 3)])
        self.assertEqual(needed_roles(("()", 2)), [("exit", 0), ("insert", 0)])

    def test_edges(self):
        self.assertEqual(needed_roles(("", 0)), [])
        self.assertEqual(needed_roles(("a", 0)), [("insert", 0), ("pass", 0)])
        self.assertEqual(needed_roles(("a", 1)), [("insert", 0)])
        for text in ("()", "[]", "{}"):
            self.assertEqual(needed_roles((text, 0)), [("exit", 0), ("insert", 0)])
            self.assertEqual(needed_roles((text, 1)), [("insert", 0)])
        self.assertEqual(needed_roles(("()a[]", 3)),
                         [("exit", 0), ("exit", 3), ("insert", 0), ("insert", 2), ("insert", 3)])
        inserts = [("insert", index) for index in range(75)]
        self.assertEqual(needed_roles((NESTED, 75)), inserts)
        self.assertEqual(needed_roles((NESTED, 76)), [("exit", 74)] + inserts)
        self.assertEqual(needed_roles((NESTED, 0)), [("exit", index) for index in range(75)] + inserts)
        self.assertEqual(needed_roles(("a" * 150, 0)),
                         [(role, index) for role in ("insert", "pass") for index in range(150)])

    def test_small_states(self):
        for state in states_up_to("a()[]", 6) + states_up_to("abz{}", 5):
            self.assertTrue(is_exactly(needed_roles(state), expected_needed(state)), state)
            self.assertEqual(len(needed_roles(state)), cost(state))

    def test_they_are_the_roles_of_all_shortest_key_lists(self):
        fewest = {}
        for keys, state in reached_by_all("a()[<>-", 6).items():
            if len(keys) == fewest.setdefault(state, len(keys)):
                self.assertEqual(needed_roles(state), sorted(roles_of(keys)), keys)

    def test_long_states(self):
        states = [(text, cursor) for text in LONG_TEXTS for cursor in (0, 1, 75, 100, 149, 150)]
        for state in states + [end_of(keys) for keys in wandering_lists()]:
            found = needed_roles(state)
            self.assertTrue(is_exactly(found, sorted(roles_of(building_keys(state)))), state)

    def test_each_list_is_new(self):
        for state in (("", 0), ("(a)b", 2), (NESTED, 0)):
            self.assert_new_lists(needed_roles, state)

    def test_wrong_states(self):
        self.assert_checks_states([needed_roles])

    def test_by_name(self):
        self.assertEqual(needed_roles(state=("a", 1)), [("insert", 0)])


class WrongKeys(CallChecks):

    def test_wrong_keys(self):
        self.assert_checks_keys(OF_KEYS)

    def test_longer_lists_that_were_returned(self):
        keys = building_keys(("ab" * 250, 0))
        self.assertEqual(len(keys), 1000)
        self.assertEqual(idle_keys(keys), [])
        self.assertEqual(shorten_keys(keys + ">" * 500), "ab" * 250)


if __name__ == "__main__":
    unittest.main()
