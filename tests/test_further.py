"""Promises [2], [3], [8] and [14]: going on from a state."""

import copy
import itertools
import unittest

from autoclosing.errors import BlockedKeyError, InvalidKeptError, InvalidKeysError, InvalidStateError
from autoclosing.further import fewest_further, further_keys, is_kept, kept_after
from autoclosing.keys import is_key_list
from tests.helpers import (
    BAD_BLOCKED_KEYS, BAD_KEYS, LONG_TEXTS, NESTED, NOT_STRINGS, CallChecks, bad_states, end_of, expected_cost,
    expected_pairs, expected_states, is_exactly, states_up_to, strings_up_to, wandering_keys,
)

WITH_KEPT = (fewest_further, further_keys)


class OtherList(list):
    """A kind of its own: not exactly a list."""


# Values of all kinds that are kept lists for no two states.
NO_LISTS = [value for value in NOT_STRINGS if not isinstance(value, list)]
NO_LISTS += ["", "0", "[]", (0,), (0, 1), {0}, {0: 0}, OtherList(), OtherList([0]), OtherList([0, 1]), range(1)]
NO_KEPT = NO_LISTS + [
    [None], [True], [False], ["0"], [0.0], [0, 1.0], [[0]], [(0,)], [[]], [0, True], [0, None], [False, 1], [-1], [-2],
    [-1, 0], [0, 0], [1, 1], [1, 0], [0, 1, 1], [0, 0, 1], [2, 1, 0], [10 ** 30], [0, 10 ** 30], [-10 ** 30, 0],
    [b""], [0, "1"], [float("nan")], [0, [1]], [{}], [set()], [object()], [0, 1, 2, 10 ** 30],
]


def marks_of(state):
    """The two lists of what is left and right of the cursor: pairs of a character and whether it was there."""
    text, cursor = state
    signs = [(sign, True) for sign in text]
    return tuple(signs[:cursor]), tuple(signs[cursor:])


def marks_after(marks, key):
    """The two lists after a key, None if it is blocked."""
    left, right = marks
    if key.isalpha():
        return left + ((key, False),), right
    if key in "([{":
        return left + ((key, False),), ((")]}"["([{".index(key)], False),) + right
    if key == "<":
        return (left[:-1], left[-1:] + right) if left else None
    if right and key in (">", right[0][0]):
        return left + right[:1], right[1:]
    return None


def kept_of(marks):
    """What kept_after returns for the two lists."""
    left, right = marks
    signs = left + right
    return ("".join(sign for sign, _ in signs), len(left)), [index for index, (_, old) in enumerate(signs) if old]


def expected_kept_after(state, keys):
    """The state after all keys and what is kept in it, with characters followed one by one."""
    marks = marks_of(state)
    for key in keys:
        marks = marks_after(marks, key)
    return kept_of(marks)


def search_further(state, keys, longest):
    """For each state and kept list that these keys lead to: the fewest keys, by pressing each key each time."""
    layer = {marks_of(state)}
    fewest = {marks: 0 for marks in layer}
    for length in range(1, longest + 1):
        layer = {marks_after(marks, key) for marks in layer for key in keys} - {None} - set(fewest)
        fewest.update((marks, length) for marks in layer)
    return [kept_of(marks) + (length,) for marks, length in fewest.items()]


def expected_is_kept(state, target, kept):
    """Whether an ascending list of indexes of the target's text is a kept list, by the words of [14]."""
    text = target[0]
    if "".join(text[index] for index in kept) != state[0]:
        return False
    for first, last in expected_pairs(text):
        both = {first, last} & set(kept)
        if len(both) == 1 or not both and any(first < index < last for index in kept):
            return False
    return True


def subsets_of(text):
    """All ascending lists of indexes of a text."""
    for many in range(len(text) + 1):
        for kept in itertools.combinations(range(len(text)), many):
            yield list(kept)


def expected_fewest(state, target, kept):
    """The fewest further keys, by the words of [14]."""
    text, cursor = target
    new = [index for index in range(len(text)) if index not in kept]
    letters = [index for index in new if text[index].isalpha()]
    pairs = [(first, last) for first, last in expected_pairs(text) if first in new]
    gaps = [len([index for index in kept if index < at]) for at in new]
    p = state[1]
    q = len([index for index in kept if index < cursor])
    a, b = min([p, q] + gaps), max([p, q] + gaps)
    outside = [(first, last) for first, last in pairs if not first < cursor <= last]
    right = [index for index in letters if index >= cursor]
    moves = abs(p - q) + 2 * (min(p, q) - a) + 2 * (b - max(p, q))
    return len(letters) + len(pairs) + len(outside) + len(right) + moves


def long_goings_on():
    """States with what a long key list without `-` makes of them: triples of state, target and kept list."""
    found = []
    mixes = ("abc([{<>", "aaaaab([{<<>", "([{(<>>)]}", "a<", "(a<", "()<<", "a(<)>", "xyz[]{}()<>", "a<<<<<(>>>>>")
    for seed, signs in enumerate(mixes, 1):
        keys = wandering_keys(seed, signs, 400)
        state = end_of(keys[:150])
        found.append((state,) + expected_kept_after(state, keys[150:]))
        found.append((("", 0),) + expected_kept_after(("", 0), keys))
    return found


class KeptAfter(CallChecks):

    def test_examples_of_the_document(self):
        self.assertTrue(is_exactly(kept_after(("()", 1), "<a>>b"), (("a()b", 4), [1, 2])))

    def test_edges(self):
        self.assertTrue(is_exactly(kept_after(("", 0), ""), (("", 0), [])))
        self.assertTrue(is_exactly(kept_after(("", 0), "(a>b"), (("(a)b", 4), [])))
        self.assertTrue(is_exactly(kept_after(("(a)b", 2), ""), (("(a)b", 2), [0, 1, 2, 3])))
        self.assertTrue(is_exactly(kept_after(("(a)b", 2), "><<"), (("(a)b", 1), [0, 1, 2, 3])))
        self.assertEqual(kept_after((NESTED, 75), "a"), ((NESTED[:75] + "a" + NESTED[75:], 76),
                                                         list(range(75)) + list(range(76, 151))))
        self.assertEqual(kept_after(("a" * 150, 0), "a" * 400), (("a" * 550, 400), list(range(400, 550))))
        self.assertEqual(kept_after(("a" * 150, 150), "(" * 400)[1], list(range(150)))
        for text in ("()", "[]", "{}"):
            self.assertEqual(kept_after((text, 1), text), ((text[0] + text + text[1], 3), [0, 3]))
            self.assertEqual(kept_after((text, 1), text[1]), ((text, 2), [0, 1]))

    def test_equal_characters_keep_their_identity(self):
        self.assertEqual(kept_after(("a", 0), "a"), (("aa", 1), [1]))
        self.assertEqual(kept_after(("a", 1), "a"), (("aa", 2), [0]))
        self.assertEqual(kept_after(("a", 0), "a>"), (("aa", 2), [1]))
        self.assertEqual(kept_after(("()", 0), "()"), (("()()", 2), [2, 3]))
        self.assertEqual(kept_after(("()", 2), "()"), (("()()", 4), [0, 1]))

    def test_all_short_key_lists(self):
        for state in states_up_to("a()", 4) + states_up_to("b[]", 3):
            for keys in strings_up_to("a(])<>", 3):
                states, blocked = expected_states(state, keys)
                if blocked is None:
                    self.assertTrue(is_exactly(kept_after(state, keys), expected_kept_after(state, keys)), keys)

    def test_long_key_lists(self):
        for seed, signs in enumerate(("abc([{<>", "a<", "()<<", "a(<)>", "xyz[]{}()<>"), 1):
            keys = wandering_keys(seed, signs, 400)
            for before in (0, 100, 200, 399, 400):
                state = end_of(keys[:before])
                found = kept_after(state, keys[before:])
                self.assertTrue(is_exactly(found, expected_kept_after(state, keys[before:])), (keys, before))
                self.assertEqual(found[0], end_of(keys))

    def test_wrong_states_come_first(self):
        for state in bad_states():
            for keys in ("", "a", "A", "-", "]", None):
                with self.subTest(state=state, keys=keys):
                    self.assert_raises_exactly(InvalidStateError, kept_after, state, keys)
        self.assert_arguments_unchanged(kept_after, "a")

    def test_then_what_is_no_key_list(self):
        for state in (("", 0), ("a", 1), ("()", 1)):
            for keys, index in BAD_KEYS + BAD_BLOCKED_KEYS + (("-A", 1), ("a-]-!-", 4), ("--?", 2), ("]?-", 1)):
                error = self.assert_raises_exactly(InvalidKeysError, kept_after, state, keys)
                self.assertTrue(is_exactly(error.index, index), keys)
            for keys in NOT_STRINGS:
                self.assertIsNone(self.assert_raises_exactly(InvalidKeysError, kept_after, state, keys).index)

    def test_then_what_deletes(self):
        for keys in ("-", "a-", "-a", "--", "(-", "]-", "-]", ">>>>-", "-<<<<", "a]b-c", "a" * 399 + "-"):
            for state in (("", 0), ("a", 1), ("a", 0), ("()", 1)):
                self.assert_raises_exactly(InvalidKeptError, kept_after, state, keys)

    def test_then_what_is_blocked(self):
        for state, keys, index in ((("", 0), "]", 0), (("", 0), "a>", 1), (("()", 1), "]", 0), (("()", 1), ")>", 1),
                                   (("a", 0), "<a", 0), (("a", 0), ">>", 1), (("()", 1), "]>>>}", 0),
                                   (("[a]", 1), "a]", 1), (("", 0), "a" * 399 + ">", 399)):
            error = self.assert_raises_exactly(BlockedKeyError, kept_after, state, keys)
            self.assertTrue(is_exactly(error.index, index), keys)

    def test_each_list_is_new(self):
        for state, keys in ((("", 0), ""), (("a", 1), ""), (("()", 1), "<a>>b"), ((NESTED, 0), "a>b")):
            self.assert_new_lists(lambda given: kept_after(*given), (state, keys))

    def test_by_name(self):
        self.assertEqual(kept_after(state=("a", 0), keys="b"), (("ba", 1), [1]))
        self.assertEqual(kept_after(keys="b", state=("a", 0)), (("ba", 1), [1]))


class IsKept(CallChecks):

    def test_examples_of_the_document(self):
        found = [is_kept(("a", 1), ("(a)", 2), [1]), is_kept(("a", 1), ("()a", 1), [2])]
        self.assertEqual(found, [False, True])

    def test_the_empty_list_and_all_indexes(self):
        self.assertIs(is_kept(("", 0), ("", 0), []), True)
        self.assertIs(is_kept(("", 0), ("(a)b", 2), []), True)
        self.assertIs(is_kept(("a", 0), ("a", 0), []), False)
        self.assertIs(is_kept(("a", 0), ("", 0), []), False)
        for text in LONG_TEXTS:
            for cursors in ((0, 0), (0, len(text)), (75, 1)):
                state, target = [(text, cursor) for cursor in cursors]
                self.assertIs(is_kept(state, target, list(range(len(text)))), True)
                self.assertIs(is_kept(("", 0), target, []), True)
                self.assertIs(is_kept(state, target, list(range(len(text) - 1))), False)
                self.assertIs(is_kept(state, target, list(range(1, len(text) + 1))), False)
                self.assertIs(is_kept(state, target, []), False)

    def test_the_cursors_do_not_matter(self):
        for one in range(3):
            for other in range(5):
                self.assertIs(is_kept(("ab", one), ("acdb", other), [0, 3]), True)
                self.assertIs(is_kept(("ab", one), ("acdb", other), [0, 2]), False)

    def test_pairs_are_kept_whole(self):
        self.assertIs(is_kept(("()", 0), ("()()", 0), [0, 3]), False)
        self.assertIs(is_kept(("()", 0), ("()()", 0), [0, 1]), True)
        self.assertIs(is_kept(("()", 0), ("()()", 0), [2, 3]), True)
        self.assertIs(is_kept(("()", 0), ("(())", 0), [0, 3]), True)
        # The outer pair would be new with kept characters within it, as only an inner one can be.
        self.assertIs(is_kept(("()", 0), ("(())", 0), [1, 2]), False)
        self.assertIs(is_kept(("()", 0), ("(())", 0), [0, 2]), False)
        self.assertIs(is_kept(("()", 0), ("(())", 0), [1, 3]), False)
        self.assertIs(is_kept(("()()", 0), ("()(())", 0), [0, 1, 2, 5]), True)
        self.assertIs(is_kept(("()()", 0), ("()(())", 0), [0, 1, 3, 4]), False)
        self.assertIs(is_kept(("a", 0), ("[[a]]", 0), [2]), False)
        self.assertIs(is_kept(("[a]", 0), ("[[a]]", 0), [0, 2, 4]), False)
        self.assertIs(is_kept(("{()}", 0), ("{()[]}", 0), [0, 1, 2, 5]), True)

    def test_other_texts(self):
        for kept in ([], [0], [1], [0, 1], [1, 2], [0, 1, 2], [2]):
            self.assertIs(is_kept(("b", 0), ("(a)", 0), kept), False)
            self.assertIs(is_kept(("[]", 0), ("()a", 0), kept), False)
        self.assertIs(is_kept(("ba", 0), ("ab", 0), [0, 1]), False)
        self.assertIs(is_kept(("ba", 0), ("ab", 0), [1, 0]), False)

    def test_all_lists_of_indexes_for_small_states(self):
        states = [(text, 0) for text, cursor in states_up_to("a()", 4) + states_up_to("b[]", 2) if cursor == 0]
        targets = [(text, 0) for text, cursor in states_up_to("a()", 6) + states_up_to("ab[]", 4) if cursor == 0]
        for state in states:
            for target in targets:
                for kept in subsets_of(target[0]):
                    expected = expected_is_kept(state, target, kept)
                    self.assertIs(is_kept(state, target, kept), expected, (state, target, kept))

    def test_kept_if_and_only_if_some_keys_keep_it(self):
        for state in states_up_to("a()", 3):
            # Enough keys for all targets of up to so many characters, from these states.
            reached = {(target, tuple(kept)) for target, kept, _ in search_further(state, "a(<>", 8)
                       if len(target[0]) <= 4}
            for target in states_up_to("a()", 4):
                for kept in subsets_of(target[0]):
                    is_reached = (target, tuple(kept)) in reached
                    self.assertIs(is_kept(state, target, kept), is_reached, (state, target, kept))

    def test_long_states(self):
        for state, target, kept in long_goings_on():
            self.assertIs(is_kept(state, target, kept), True)
            if kept:
                self.assertIs(is_kept(state, target, kept[:-1]), False)
                self.assertIs(is_kept(state, target, kept[::-1]), len(kept) == 1)
                self.assertIs(is_kept(state, target, kept + [len(target[0])]), False)

    def test_values_of_every_kind(self):
        pairs = ((("a", 1), ("ab", 2)), (("aa", 1), ("aa", 2)), (("", 0), ("", 0)), (("()", 0), ("()", 1)),
                 (("", 0), ("a", 0)), (("b", 0), ("ab", 0)))
        for state, target in pairs:
            for value in NO_KEPT:
                with self.subTest(state=state, target=target, value=value):
                    self.assertIs(is_kept(state, target, value), False)

    def test_wrong_states(self):
        for wrong in bad_states():
            for value in ([], [0], None):
                with self.subTest(wrong=wrong, value=value):
                    self.assert_raises_exactly(InvalidStateError, is_kept, wrong, ("a", 1), value)
                    self.assert_raises_exactly(InvalidStateError, is_kept, ("a", 1), wrong, value)
                    self.assert_raises_exactly(InvalidStateError, is_kept, wrong, wrong, value)
        self.assert_arguments_unchanged(is_kept, ("a", 1), [])

    def test_no_argument_is_changed(self):
        for value in ([0], [0, 0], [1, 0], [], [[0]], [True]):
            before = copy.deepcopy(value)
            is_kept(("a", 1), ("a", 1), value)
            self.assertTrue(is_exactly(value, before))

    def test_by_name(self):
        self.assertIs(is_kept(state=("a", 1), target=("ab", 1), value=[0]), True)
        self.assertIs(is_kept(value=[1], target=("ab", 1), state=("a", 1)), False)


class FewestFurther(CallChecks):

    def test_examples_of_the_document(self):
        self.assertEqual(fewest_further(("()", 1), ("a()b", 4), [1, 2]), 5)

    def test_nothing_new(self):
        for text in ("", "a", "(a)b") + LONG_TEXTS:
            kept = list(range(len(text)))
            for start in (0, len(text) // 2, len(text)):
                for goal in (0, len(text) // 3, len(text)):
                    self.assertEqual(fewest_further((text, start), (text, goal), kept), abs(start - goal))

    def test_nothing_kept(self):
        for target in states_up_to("a()", 6) + states_up_to("bc[]{}", 4):
            self.assertEqual(fewest_further(("", 0), target, []), expected_cost(target), target)
        for text in LONG_TEXTS:
            for cursor in (0, 1, 75, 149, 150):
                self.assertEqual(fewest_further(("", 0), (text, cursor), []), expected_cost((text, cursor)))

    def test_what_is_kept_makes_a_difference(self):
        self.assertEqual(fewest_further(("a", 1), ("aa", 2), [0]), 1)
        self.assertEqual(fewest_further(("a", 1), ("aa", 2), [1]), 3)
        self.assertEqual(fewest_further(("a", 0), ("aa", 1), [0]), 3)
        self.assertEqual(fewest_further(("a", 0), ("aa", 1), [1]), 1)
        self.assertEqual(fewest_further(("()", 1), ("()()", 1), [0, 1]), 4)
        self.assertEqual(fewest_further(("()", 1), ("()()", 1), [2, 3]), 2)

    def test_detours_to_both_sides(self):
        text = "a" * 10
        for start in range(11):
            for goal in range(11):
                # A new letter on the left, one on the right, and one on each side.
                self.assertEqual(fewest_further((text, start), ("b" + text, goal + 1), list(range(1, 11))),
                                 start + goal + 1)
                self.assertEqual(fewest_further((text, start), (text + "b", goal), list(range(10))),
                                 (10 - start) + (10 - goal) + 2)
                self.assertEqual(fewest_further((text, start), ("b" + text + "b", goal + 1), list(range(1, 11))),
                                 20 - abs(start - goal) + 3)

    def test_against_a_search_key_by_key(self):
        starts = [(state, "a(<>", 6) for state in states_up_to("a()", 4)]
        starts += [(state, "ab[(<>", 4) for state in states_up_to("ab[]", 3)]
        starts += [(("aaa", 1), "b(<>", 8), (("(a)()", 2), "a(<>", 7), (("a(())a", 3), "a(<>", 7)]
        for state, keys, longest in starts:
            for target, kept, length in search_further(state, keys, longest):
                self.assertTrue(is_exactly(fewest_further(state, target, kept), length), (state, target, kept))

    def test_against_the_words_of_the_document(self):
        targets = states_up_to("a()", 5)
        for state in states_up_to("a()", 4):
            for target in targets:
                for kept in subsets_of(target[0]):
                    if len(kept) == len(state[0]) and expected_is_kept(state, target, kept):
                        expected = expected_fewest(state, target, kept)
                        self.assertEqual(fewest_further(state, target, kept), expected, (state, target, kept))

    def test_long_states(self):
        for state, target, kept in long_goings_on():
            expected = expected_fewest(state, target, kept)
            self.assertTrue(is_exactly(fewest_further(state, target, kept), expected), (state, target))

    def test_by_name(self):
        self.assertEqual(fewest_further(state=("a", 1), target=("ab", 1), kept=[0]), 2)
        self.assertEqual(fewest_further(kept=[0], target=("ab", 1), state=("a", 1)), 2)


class FurtherKeys(CallChecks):

    def assert_leads_on(self, state, target, kept, length):
        """The key list is one of those that the document allows."""
        keys = further_keys(state, target, kept)
        self.assertIs(type(keys), str)
        self.assertTrue(is_key_list(keys))
        self.assertNotIn("-", keys)
        self.assertEqual(len(keys), length, (state, target, kept, keys))
        self.assertEqual(expected_kept_after(state, keys), (target, kept), (state, target, kept, keys))
        self.assertEqual(kept_after(state, keys), (target, kept))
        self.assertEqual(further_keys(state, target, kept), keys)

    def test_examples_of_the_document(self):
        keys = further_keys(("()", 1), ("a()b", 4), [1, 2])
        self.assertEqual((len(keys), kept_after(("()", 1), keys)), (5, (("a()b", 4), [1, 2])))

    def test_edges(self):
        self.assertEqual(further_keys(("", 0), ("", 0), []), "")
        self.assertEqual(further_keys(("a", 0), ("a", 0), [0]), "")
        self.assertEqual(further_keys((NESTED, 0), (NESTED, 150), list(range(150))), ">" * 150)
        self.assertEqual(further_keys((NESTED, 150), (NESTED, 0), list(range(150))), "<" * 150)
        self.assertEqual(further_keys(("", 0), (NESTED, 75), []), "(" * 75)

    def test_what_a_search_reaches(self):
        starts = [(state, "a(<>", 5) for state in states_up_to("a()", 4)]
        starts += [(state, "b{<>", 5) for state in states_up_to("ab{}", 3)]
        for state, keys, longest in starts:
            for target, kept, length in search_further(state, keys, longest):
                self.assert_leads_on(state, target, kept, length)

    def test_all_kept_lists_of_small_states(self):
        targets = states_up_to("a()", 5)
        for state in states_up_to("a()", 3):
            for target in targets:
                for kept in subsets_of(target[0]):
                    if len(kept) == len(state[0]) and expected_is_kept(state, target, kept):
                        self.assert_leads_on(state, target, kept, expected_fewest(state, target, kept))

    def test_long_states(self):
        for state, target, kept in long_goings_on():
            self.assert_leads_on(state, target, kept, expected_fewest(state, target, kept))

    def test_by_name(self):
        self.assertEqual(further_keys(state=("a", 1), target=("ab", 2), kept=[0]), "b")
        self.assertEqual(further_keys(kept=[0], target=("ab", 2), state=("a", 1)), "b")


class WrongArguments(CallChecks):

    def test_wrong_states_come_first(self):
        for function in WITH_KEPT:
            for wrong in bad_states():
                for kept in ([], [0], [1, 0], None):
                    with self.subTest(function=function.__name__, wrong=wrong, kept=kept):
                        self.assert_raises_exactly(InvalidStateError, function, wrong, ("a", 1), kept)
                        self.assert_raises_exactly(InvalidStateError, function, ("a", 1), wrong, kept)
                        self.assert_raises_exactly(InvalidStateError, function, wrong, wrong, kept)
            self.assert_arguments_unchanged(function, ("a", 1), [0])

    def test_then_kept_lists(self):
        for function in WITH_KEPT:
            for state, target in ((("aa", 1), ("aa", 2)), (("", 0), ("", 0)), (("()", 0), ("()", 1)),
                                  (("a", 1), ("ab", 2))):
                for kept in NO_KEPT:
                    with self.subTest(function=function.__name__, state=state, kept=kept):
                        self.assert_raises_exactly(InvalidKeptError, function, state, target, kept)

    def test_lists_that_are_no_kept_lists_for_these_states(self):
        wrong = ((("a", 1), ("(a)", 2), [1]), (("()", 0), ("()()", 0), [0, 3]), (("()", 0), ("(())", 0), [1, 2]),
                 (("()", 0), ("(())", 0), [0, 2]), (("a", 0), ("ab", 0), [1]), (("a", 0), ("a", 0), []),
                 (("", 0), ("a", 0), [0]), (("ab", 0), ("ab", 0), [1, 0]), (("aa", 0), ("aa", 0), [0, 0]),
                 (("a", 0), ("aa", 0), [-1]), (("a", 0), ("ba", 0), [True]), (("a", 0), ("ab", 0), [False]),
                 (("a", 0), ("a", 0), [1]), (("a", 0), ("a", 0), (0,)))
        for function in WITH_KEPT:
            for state, target, kept in wrong:
                with self.subTest(function=function.__name__, state=state, target=target, kept=kept):
                    self.assert_raises_exactly(InvalidKeptError, function, state, target, kept)

    def test_no_argument_is_changed(self):
        for function in WITH_KEPT + (is_kept,):
            for state, target, kept in ((("()", 1), ("a()b", 4), [1, 2]), (("a", 1), ("a", 1), [0]),
                                        (("", 0), ("", 0), [])):
                before = list(kept)
                function(state, target, kept)
                self.assertTrue(is_exactly(kept, before))
        for function in WITH_KEPT:
            for kept in ([0, [1]], [1, 0], [None]):
                before = copy.deepcopy(kept)
                self.assertRaises(InvalidKeptError, function, ("a", 1), ("a", 1), kept)
                self.assertEqual(kept, before)

    def test_larger_values_that_were_returned(self):
        target = ("a(b)", 2)
        for _ in range(3):
            state, (target, kept) = target, kept_after(target, "<b" * 200)
            self.assertIs(is_kept(state, target, kept), True)
            self.assertEqual(kept_after(state, further_keys(state, target, kept)), (target, kept))
            self.assertEqual(fewest_further(state, target, kept), expected_fewest(state, target, kept))


if __name__ == "__main__":
    unittest.main()
