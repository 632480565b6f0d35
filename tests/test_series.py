"""Promises [2], [3], [9] and [13]: counting states."""

import copy
import itertools
import math
import unittest
from unittest import mock

from autoclosing import series
from autoclosing.costs import cost
from autoclosing.errors import InvalidNumberError, TooManyStatesError
from autoclosing.series import count_left, count_right, count_states, list_states
from autoclosing.texts import is_state
from tests.helpers import (
    NOT_STRINGS, CallChecks, expected_cost, is_exactly, search_layers, state_of, states_up_to, texts_up_to,
)

OF_NUMBERS = (count_states, count_left, count_right, list_states)
ALPHABET = "abcdefghijklmnopqrstuvwxyz"
ALL_SIZES = list(itertools.product(range(27), range(4)))

# Values of other kinds, and integers that are allowed in none of the three places.
NO_NUMBERS = [value for value in NOT_STRINGS if type(value) is not int]
NO_NUMBERS += ["", "0", "1", "a", [0], (0,), {0: 0}, 0.0, 1.0, 200.0, float("nan"), float("inf"), 1j]
NO_NUMBERS += [-1, -2, 201, 10 ** 30, -10 ** 30]


def catalan(many):
    """The number of texts of so many pairs of one kind."""
    return math.comb(2 * many, many) // (many + 1)


def side_counts(letters, kinds, letter_cost, total):
    """The numbers of texts for all totals: letters that cost so much and pairs that cost 2, counted by their texts."""
    counts = [0] * (total + 1)
    for pairs in range(total // 2 + 1):
        for many in range((total - 2 * pairs) // letter_cost + 1):
            texts = catalan(pairs) * math.comb(2 * pairs + many, many) * kinds ** pairs * letters ** many
            counts[2 * pairs + letter_cost * many] += texts
    return counts


def times(one, other):
    """The product of two series of the same length, as far as they go."""
    product = [0] * len(one)
    for low, first in enumerate(one):
        for high, second in enumerate(other[:len(one) - low]):
            product[low + high] += first * second
    return product


def state_counts(letters, kinds, total):
    """The numbers of states for all totals, for one depth after the other."""
    level = times(side_counts(letters, kinds, 1, total), side_counts(letters, kinds, 2, total))
    counts = [0] * (total + 1)
    deeper = level
    while any(deeper):
        counts = [one + two for one, two in zip(counts, deeper)]
        deeper = [0] + [kinds * many for many in times(deeper, level)[:-1]]
    return counts


def keys_of(letters, kinds):
    """The plain keys without `-` that lead to all states of so many letters and kinds."""
    return ALPHABET[:letters] + "([{"[:kinds] + "<>"


def signs_of(letters, kinds):
    """The characters of the texts of so many letters and kinds."""
    return ALPHABET[:letters] + "()[]{}"[:2 * kinds]


class CountStates(CallChecks):

    def test_examples_of_the_document(self):
        self.assertEqual([count_states(1, 1, total) for total in range(3)], [1, 2, 7])

    def test_neither_letters_nor_kinds(self):
        self.assertEqual([count_states(0, 0, total) for total in (0, 1, 2, 3, 199, 200)], [1, 0, 0, 0, 0, 0])

    def test_no_kinds(self):
        # With one letter the cursor alone tells the states of a cost from each other.
        self.assertEqual([count_states(1, 0, total) for total in range(8)], [1, 1, 2, 2, 3, 3, 4, 4])
        self.assertEqual(count_states(1, 0, 200), 101)
        self.assertEqual([count_states(26, 0, total) for total in range(3)], [1, 26, 702])

    def test_no_letters(self):
        self.assertEqual([count_states(0, kinds, 1) for kinds in range(4)], [0, 1, 2, 3])
        # The pair with the cursor on each side, and two pairs around it.
        self.assertEqual([count_states(0, kinds, 2) for kinds in range(4)], [0, 3, 8, 15])

    def test_total_0(self):
        for letters, kinds in ALL_SIZES:
            self.assertEqual(count_states(letters, kinds, 0), 1)

    def test_total_1(self):
        for letters, kinds in ALL_SIZES:
            self.assertEqual(count_states(letters, kinds, 1), letters + kinds)

    def test_against_a_search_key_by_key(self):
        for letters, kinds, longest in ((0, 0, 3), (1, 0, 12), (0, 1, 10), (1, 1, 9), (2, 1, 6), (0, 3, 6), (2, 3, 4)):
            layers = search_layers(keys_of(letters, kinds), longest)
            found = [count_states(letters, kinds, total) for total in range(longest + 1)]
            self.assertTrue(is_exactly(found, [len(layer) for layer in layers]), (letters, kinds))

    def test_the_most_letters_and_kinds_by_search(self):
        layers = search_layers(keys_of(26, 3), 2)
        self.assertEqual([count_states(26, 3, total) for total in range(3)], [len(layer) for layer in layers])

    def test_against_the_costs_of_all_small_states(self):
        # A text of n characters with a cost below n / 2 does not exist.
        for letters, kinds, most in ((1, 1, 4), (2, 1, 3), (0, 2, 4)):
            costs = [expected_cost(state) for state in states_up_to(signs_of(letters, kinds), 2 * most)]
            for total in range(most + 1):
                self.assertEqual(count_states(letters, kinds, total), costs.count(total), (letters, kinds, total))

    def test_large_numbers(self):
        for letters, kinds in ((0, 1), (1, 0), (1, 1), (26, 3), (26, 0), (0, 3), (5, 2)):
            counts = state_counts(letters, kinds, 200)
            for total in (2, 3, 7, 50, 99, 100, 199, 200):
                self.assertTrue(is_exactly(count_states(letters, kinds, total), counts[total]), (letters, kinds, total))

    def test_all_numbers_of_letters_and_kinds(self):
        for letters, kinds in ALL_SIZES:
            counts = state_counts(letters, kinds, 12)
            self.assertEqual([count_states(letters, kinds, total) for total in range(13)], counts, (letters, kinds))

    def test_the_equation_of_the_series(self):
        for letters, kinds in ((1, 1), (26, 3), (3, 0), (0, 2)):
            left = [count_left(letters, kinds, total) for total in range(41)]
            right = [count_right(letters, kinds, total) for total in range(41)]
            states = [count_states(letters, kinds, total) for total in range(41)]
            both = times(left, right)
            deeper = [0] + [kinds * many for many in times(both, states)[:-1]]
            self.assertEqual(states, [one + two for one, two in zip(both, deeper)])

    def test_by_name(self):
        self.assertEqual(count_states(letters=1, kinds=1, total=2), 7)
        self.assertEqual(count_states(total=2, kinds=0, letters=26), 702)


class CountLeft(CallChecks):

    def test_examples_of_the_document(self):
        self.assertEqual([count_left(1, 1, total) for total in range(3)], [1, 1, 2])

    def test_edges(self):
        self.assertEqual([count_left(0, 0, total) for total in (0, 1, 2, 200)], [1, 0, 0, 0])
        self.assertEqual([count_left(1, 0, total) for total in (0, 1, 2, 200)], [1, 1, 1, 1])
        self.assertEqual([count_left(0, 1, total) for total in (0, 1, 2, 3, 4, 199)], [1, 0, 1, 0, 2, 0])
        self.assertEqual(count_left(0, 1, 200), catalan(100))
        self.assertEqual(count_left(26, 0, 200), 26 ** 200)
        self.assertEqual([count_left(26, 3, total) for total in range(3)], [1, 26, 679])

    def test_against_all_small_texts(self):
        # With the cursor at the end a letter costs 1 and a pair 2: the cost is the length.
        for letters, kinds, longest in ((1, 1, 7), (2, 1, 6), (1, 2, 6), (0, 3, 6), (3, 0, 6)):
            texts = texts_up_to(signs_of(letters, kinds), longest)
            costs = [expected_cost((text, len(text))) for text in texts]
            for total in range(longest + 1):
                self.assertEqual(count_left(letters, kinds, total), costs.count(total), (letters, kinds, total))

    def test_large_numbers(self):
        for letters, kinds in ((0, 1), (1, 1), (26, 3), (7, 2)):
            counts = side_counts(letters, kinds, 1, 200)
            for total in (3, 50, 149, 199, 200):
                self.assertTrue(is_exactly(count_left(letters, kinds, total), counts[total]), (letters, kinds, total))

    def test_all_numbers_of_letters_and_kinds(self):
        for letters, kinds in ALL_SIZES:
            counts = side_counts(letters, kinds, 1, 12)
            self.assertEqual([count_left(letters, kinds, total) for total in range(13)], counts, (letters, kinds))

    def test_by_name(self):
        self.assertEqual(count_left(letters=1, kinds=0, total=2), 1)


class CountRight(CallChecks):

    def test_examples_of_the_document(self):
        self.assertEqual([count_right(1, 1, total) for total in range(3)], [1, 0, 2])

    def test_edges(self):
        self.assertEqual([count_right(0, 0, total) for total in (0, 1, 2, 200)], [1, 0, 0, 0])
        self.assertEqual([count_right(1, 0, total) for total in (0, 1, 2, 3, 199, 200)], [1, 0, 1, 0, 0, 1])
        self.assertEqual([count_right(0, 1, total) for total in (0, 1, 2, 3, 4, 199)], [1, 0, 1, 0, 2, 0])
        self.assertEqual(count_right(0, 1, 200), catalan(100))
        self.assertEqual(count_right(26, 0, 200), 26 ** 100)
        self.assertEqual([count_right(26, 3, total) for total in range(3)], [1, 0, 29])

    def test_against_all_small_texts(self):
        for letters, kinds, most in ((1, 1, 7), (2, 1, 6), (1, 2, 6), (0, 3, 6), (3, 0, 6)):
            costs = [expected_cost((text, 0)) for text in texts_up_to(signs_of(letters, kinds), most)]
            for total in range(most + 1):
                self.assertEqual(count_right(letters, kinds, total), costs.count(total), (letters, kinds, total))

    def test_large_numbers(self):
        for letters, kinds in ((0, 1), (1, 1), (26, 3), (7, 2)):
            counts = side_counts(letters, kinds, 2, 200)
            for total in (3, 50, 149, 199, 200):
                self.assertTrue(is_exactly(count_right(letters, kinds, total), counts[total]), (letters, kinds, total))

    def test_all_numbers_of_letters_and_kinds(self):
        for letters, kinds in ALL_SIZES:
            counts = side_counts(letters, kinds, 2, 12)
            self.assertEqual([count_right(letters, kinds, total) for total in range(13)], counts, (letters, kinds))

    def test_by_name(self):
        self.assertEqual(count_right(letters=1, kinds=0, total=2), 1)


class ListStates(CallChecks):

    def test_examples_of_the_document(self):
        self.assertTrue(is_exactly(list_states(1, 1, 1), [("()", 1), ("a", 1)]))

    def test_neither_letters_nor_kinds(self):
        self.assertTrue(is_exactly(list_states(0, 0, 0), [("", 0)]))
        for total in (1, 2, 200):
            self.assertEqual(list_states(0, 0, total), [])

    def test_no_kinds(self):
        self.assertEqual(list_states(26, 0, 1), [(letter, 1) for letter in ALPHABET])
        self.assertEqual(list_states(1, 0, 4), [("aa", 0), ("aaa", 2), ("aaaa", 4)])
        # A text of 100 to 200 letters, with the cursor where 200 keys lead to.
        found = list_states(1, 0, 200)
        self.assertTrue(is_exactly(found, [("a" * many, 2 * many - 200) for many in range(100, 201)]))

    def test_no_letters(self):
        self.assertEqual(list_states(0, 1, 2), [("(())", 2), ("()", 0), ("()", 2)])
        self.assertEqual(list_states(0, 3, 1), [("()", 1), ("[]", 1), ("{}", 1)])

    def test_ascending_order_is_that_of_the_tuples(self):
        self.assertEqual(list_states(1, 1, 2), [("(())", 2), ("()", 0), ("()", 2), ("(a)", 2), ("a", 0), ("a()", 2),
                                                ("aa", 2)])
        for numbers in ((2, 3, 2), (1, 1, 5), (26, 2, 2), (1, 0, 150), (0, 2, 4)):
            found = list_states(*numbers)
            self.assertEqual(found, sorted(set(found)), numbers)

    def test_total_0(self):
        for letters, kinds in ALL_SIZES:
            self.assertEqual(list_states(letters, kinds, 0), [("", 0)])

    def test_against_a_search_key_by_key(self):
        for letters, kinds, longest in ((1, 0, 12), (0, 1, 7), (1, 1, 4), (2, 1, 3), (0, 3, 3), (2, 3, 3), (26, 3, 2)):
            for total, layer in enumerate(search_layers(keys_of(letters, kinds), longest)):
                expected = sorted(state_of(marked) for marked in layer)
                self.assertLessEqual(len(expected), 1000)
                self.assertTrue(is_exactly(list_states(letters, kinds, total), expected), (letters, kinds, total))

    def test_against_the_costs_of_all_small_states(self):
        for letters, kinds, most in ((1, 1, 4), (2, 1, 3), (0, 2, 4)):
            states = states_up_to(signs_of(letters, kinds), 2 * most)
            for total in range(most + 1):
                expected = sorted(state for state in states if expected_cost(state) == total)
                self.assertEqual(list_states(letters, kinds, total), expected, (letters, kinds, total))

    def test_as_many_as_counted(self):
        for letters, kinds in ALL_SIZES:
            for total in range(201):
                count = count_states(letters, kinds, total)
                if count > 1000 or count == 0 and total > 3:
                    break
                # Those with long lists of long texts are looked at in other tests.
                if count <= 30 or total < 3:
                    found = list_states(letters, kinds, total)
                    self.assertEqual(len(found), count)
                    for state in found:
                        self.assertTrue(is_state(state))
                        self.assertEqual(cost(state), total)

    def test_the_cursor_at_the_end_and_at_the_beginning(self):
        for letters, kinds, total in ((1, 1, 4), (2, 2, 3), (26, 3, 2), (1, 0, 100), (0, 1, 7)):
            found = list_states(letters, kinds, total)
            at_the_end = [text for text, cursor in found if cursor == len(text)]
            at_the_beginning = [text for text, cursor in found if cursor == 0]
            self.assertEqual(len(at_the_end), count_left(letters, kinds, total))
            self.assertEqual(len(at_the_beginning), count_right(letters, kinds, total))

    def test_up_to_1000_states_and_more(self):
        # No allowed numbers give exactly 1,000 states: these two counts are the nearest ones.
        self.assertEqual(len(list_states(2, 0, 9)), 992)
        self.assert_too_many((1, 2, 5), 1009)
        self.assert_too_many((2, 0, 10), count_states(2, 0, 10))
        self.assert_too_many((26, 0, 3), count_states(26, 0, 3))
        self.assert_too_many((26, 3, 3), count_states(26, 3, 3))
        self.assert_too_many((26, 3, 200), state_counts(26, 3, 200)[200])
        self.assert_too_many((0, 1, 200), state_counts(0, 1, 200)[200])

    def assert_too_many(self, numbers, count):
        """The call raises the error with this number."""
        error = self.assert_raises_exactly(TooManyStatesError, list_states, *numbers)
        self.assertTrue(is_exactly(error.count, count))
        self.assertGreater(count, 1000)

    def test_no_numbers_give_exactly_1000_states(self):
        for letters, kinds in ALL_SIZES:
            for count in state_counts(letters, kinds, 20):
                self.assertNotEqual(count, 1000)

    def test_exactly_as_many_as_are_listed(self):
        self.assertEqual(series.MOST_LISTED, 1000)
        with mock.patch.object(series, "MOST_LISTED", 7):
            self.assertEqual(len(list_states(1, 1, 2)), 7)
        with mock.patch.object(series, "MOST_LISTED", 6):
            self.assertEqual(self.assert_raises_exactly(TooManyStatesError, list_states, 1, 1, 2).count, 7)

    def test_each_list_is_new(self):
        for numbers in ((0, 0, 0), (0, 0, 1), (1, 1, 1), (1, 1, 3)):
            self.assert_new_lists(lambda of: list_states(*of), numbers)

    def test_by_name(self):
        self.assertEqual(list_states(letters=1, kinds=0, total=1), [("a", 1)])
        self.assertEqual(list_states(total=1, kinds=1, letters=0), [("()", 1)])


class WrongNumbers(CallChecks):

    def test_other_kinds_and_other_integers(self):
        for function in OF_NUMBERS:
            for value in NO_NUMBERS:
                for numbers in ((value, 1, 1), (1, value, 1), (1, 1, value), (value, value, value), (value, 1, 201)):
                    with self.subTest(function=function.__name__, numbers=numbers):
                        self.assert_raises_exactly(InvalidNumberError, function, *numbers)

    def test_the_limits(self):
        for function in OF_NUMBERS:
            for numbers in ((-1, 1, 1), (27, 1, 1), (1, -1, 1), (1, 4, 1), (1, 1, -1), (1, 1, 201), (27, 4, 201)):
                with self.subTest(function=function.__name__, numbers=numbers):
                    self.assert_raises_exactly(InvalidNumberError, function, *numbers)
        for numbers in ((0, 0, 0), (26, 0, 0), (0, 3, 0), (0, 0, 200), (26, 3, 1), (1, 0, 200)):
            for function in OF_NUMBERS:
                function(*numbers)
        for function in OF_NUMBERS[:3]:
            self.assertGreater(function(26, 3, 200), 0)

    def test_true_and_false_are_no_numbers(self):
        for function in OF_NUMBERS:
            for numbers in ((True, 1, 1), (False, 1, 1), (1, True, 1), (1, False, 1), (1, 1, True), (1, 1, False)):
                self.assert_raises_exactly(InvalidNumberError, function, *numbers)

    def test_wrong_numbers_come_before_too_many_states(self):
        for numbers in ((27, 3, 200), (26, 4, 200), (26, 3, 201), (26, 3, True)):
            self.assert_raises_exactly(InvalidNumberError, list_states, *numbers)

    def test_no_argument_is_changed(self):
        for function in OF_NUMBERS:
            for value in ([1], {1: [2]}, ([1], 2)):
                before = copy.deepcopy(value)
                self.assertRaises(InvalidNumberError, function, value, value, value)
                self.assertEqual(value, before)


if __name__ == "__main__":
    unittest.main()
