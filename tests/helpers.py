"""What several tests share: invalid values, and a second way to say what the document says.

The second way presses keys on marked texts, which have a `|` at the cursor, and searches key
by key. It shares no code with the package, so that one mistake is not made in both.
"""

import copy
import itertools
import re
import unittest

from autoclosing.errors import (
    AutoclosingError, BlockedKeyError, InvalidKeysError, InvalidStateError, InvalidTextError,
)

ALL_KEYS = "abcdefghijklmnopqrstuvwxyz()[]{}<>-"

NESTED = "(" * 75 + ")" * 75
MIXED_NESTED = "([{" * 25 + "}])" * 25
LONG_TEXTS = (NESTED, MIXED_NESTED, "a" * 150, "()" * 75, "[]" * 75, "{}" * 75, "(a)" * 50, "z{[()]}" * 21 + "abc")

# Strings that are no key lists, with the position of their first character that is no key.
BAD_KEYS = (
    ("A", 0), ("Z", 0), ("0", 0), ("9", 0), (" ", 0), ("\n", 0), ("|", 0), ("_", 0), ("=", 0), ("`", 0), ("~", 0),
    ("\u00e9", 0), ("\u00df", 0), ("\u0430", 0), ("\uff08", 0), ("\u2190", 0), ("\ud800", 0), ("\U0001f600", 0),
    ("aA", 1), ("a1b2", 1), ("(a>-+", 4), ("abc\n", 3), ("a" * 399 + "!", 399), ("a" * 100 + "?" + "a" * 299, 100),
)

# The same, with blocked keys before the character or behind it.
BAD_BLOCKED_KEYS = (
    ("}A", 1), ("A}", 0), ("<<<--- ", 6), ("ab9}}", 2), ("}" * 399 + "?", 399), ("a1}B", 1), ("(]a9", 3), ("a>.", 2),
)

# Key lists that are blocked from the empty state, with the position of their first blocked key.
BLOCKED_KEYS = (
    ("-", 0), ("<", 0), (">", 0), (")", 0), ("]", 0), ("}", 0), ("-ab", 0), (">a>", 0), ("ab>", 2), ("ab>>", 2),
    ("a)b-->", 1), ("(]", 1), ("(a]", 2), ("[)", 1), ("{a)", 2), ("()-", 2), ("(a<-", 3), ("([>-", 3), ("a<-", 2),
    ("--", 0), ("a--", 2), ("()>", 2), ("()>-<", 2), ("a" * 399 + ">", 399), ("a" * 200 + "]" + "a" * 199, 200),
    ("(" * 200 + ")" * 199 + "]", 399), ("(" * 75 + "-" * 76 + "a", 150),
)

BAD_TEXTS = (
    "(", ")", "[", "]", "{", "}", ")(", "(]", "[)", "{)", "(a[)]", "([)]", "(()", "())", "((", "a)", "{a",
    " ", "a b", "A", "Z", "(A)", "0", "a1", "9", "\n", "a\n", "\t", "-", "<", ">", "<>", "|", "_", "`", "{`}", "~",
    "\u00e9", "\u00df", "a\u0301", "\u0430", "\uff41", "\uff08\uff09", "\ud800", "\x00",
)

NOT_STRINGS = (
    None, True, False, 0, 1, -1, 2.5, 1j, b"", b"a", b"()", bytearray(b"a"), (), ("a",), ("a", 1), [], ["a"],
    ["(", ")"], {}, {"a": 1}, set(), frozenset("a"), object(), str, len, range(2), iter("a"), NotImplemented, ...,
)


class OtherTuple(tuple):
    """A kind of its own: not exactly a tuple."""


def bad_states():
    """Values of all kinds that are not states."""
    bad = [value for value in NOT_STRINGS if value != ("a", 1)]
    bad += ["", "a", "()", "ab", ("",), (0,), ("", 0, 0), ("a", 1, None), (("", 0),), (0, ""), (1, "a")]
    bad += [["", 0], ["a", 1], {"": 0}, OtherTuple(("a", 1)), OtherTuple(("", 0))]
    bad += [("", -1), ("", 1), ("a", -1), ("a", 2), ("()", 3), ("()", -1), ("a", 10 ** 30), ("a", -10 ** 30)]
    bad += [("a", cursor) for cursor in (True, False, None, "1", "", 1.0, 0.0, b"1", (1,), [1], 1j)]
    bad += [(text, 0) for text in BAD_TEXTS + NOT_STRINGS]
    return bad


def without_pairs(text):
    """What is left of a part of a text without its letters and pairs: brackets whose partners are outside."""
    rest = re.sub("[a-z]", "", text)
    while rest != (shorter := rest.replace("()", "").replace("[]", "").replace("{}", "")):
        rest = shorter
    return rest


def reduces_to_nothing(text):
    """Whether a string is a text: nothing is left without its letters and pairs."""
    return without_pairs(text) == ""


def strings_up_to(signs, longest):
    """All strings of these characters up to this length."""
    for length in range(longest + 1):
        for parts in itertools.product(signs, repeat=length):
            yield "".join(parts)


def texts_up_to(signs, longest):
    """All texts of these characters up to this length."""
    return [text for text in strings_up_to(signs, longest) if reduces_to_nothing(text)]


def states_up_to(signs, longest):
    """All states whose texts are those of texts_up_to."""
    return [(text, cursor) for text in texts_up_to(signs, longest) for cursor in range(len(text) + 1)]


def marked_after(marked, key):
    """The marked text after one key, None if it is blocked."""
    if key.isalpha():
        return marked.replace("|", key + "|")
    if key in "([{":
        return marked.replace("|", key + "|" + {"(": ")", "[": "]", "{": "}"}[key])
    rules = {
        "<": (r"(.)\|", r"|\1"),
        ">": (r"\|(.)", r"\1|"),
        "-": (r"[a-z]\||\(\|\)|\[\|\]|\{\|\}", "|"),
        ")": (r"\|\)", ")|"),
        "]": (r"\|\]", "]|"),
        "}": (r"\|\}", "}|"),
    }
    found, many = re.subn(rules[key][0], rules[key][1], marked, count=1)
    return found if many else None


def marked_of(state):
    """The marked text of a state."""
    text, cursor = state
    return text[:cursor] + "|" + text[cursor:]


def state_of(marked):
    """The state of a marked text."""
    return marked.replace("|", ""), marked.index("|")


def expected_after(state, key):
    """The state after one key, None if it is blocked."""
    marked = marked_after(marked_of(state), key)
    return None if marked is None else state_of(marked)


def expected_states(state, keys):
    """The states before the first key and after each key, and the first blocked position or None."""
    states = [state]
    for index, key in enumerate(keys):
        following = expected_after(states[-1], key)
        if following is None:
            return states, index
        states.append(following)
    return states, None


def expected_pairs(text):
    """The pairs: the shortest text from each opening bracket on ends with its closing one."""
    pairs = []
    for first, sign in enumerate(text):
        if sign in "([{":
            ends = [end for end in range(first + 2, len(text) + 1) if reduces_to_nothing(text[first:end])]
            pairs.append((first, ends[0] - 1))
    return pairs


def expected_cost(state):
    """The cost of a state as [9] defines it."""
    text, cursor = state
    letters = len(re.findall("[a-z]", text))
    pairs = (len(text) - letters) // 2
    return 2 * (letters + pairs) - len(without_pairs(text[:cursor])) - len(re.findall("[a-z]", text[:cursor]))


def search_layers(keys, longest):
    """For each number of keys up to this one: the marked texts that need so many, and how many lists lead there.

    A list of dicts, found by pressing each of the keys in each state.
    """
    layers = [{"|": 1}]
    seen = {"|"}
    for _ in range(longest):
        following = {}
        for marked, many in layers[-1].items():
            for key in keys:
                after = marked_after(marked, key)
                if after is not None and after not in seen:
                    following[after] = following.get(after, 0) + many
        seen.update(following)
        layers.append(following)
    return layers


def searched_counts(keys, longest):
    """Pairs of each state that up to so many of these keys reach and its fewest keys and number of such lists."""
    for length, layer in enumerate(search_layers(keys, longest)):
        for marked, many in layer.items():
            yield state_of(marked), length, many


def reached_by_all(keys, longest):
    """For each list of up to so many of these keys that is not blocked from the empty state: the state it reaches."""
    reached = {"": "|"}
    layer = [""]
    for _ in range(longest):
        following = []
        for pressed in layer:
            for key in keys:
                after = marked_after(reached[pressed], key)
                if after is not None:
                    reached[pressed + key] = after
                    following.append(pressed + key)
        layer = following
    return {pressed: state_of(marked) for pressed, marked in reached.items()}


def wandering_keys(seed, signs, length):
    """A key list of this length that is not blocked, the same for the same seed."""
    marked = "|"
    pressed = ""
    number = seed
    while len(pressed) < length:
        number = (number * 1103515245 + 12345) % 2 ** 31
        key = signs[number // 65536 % len(signs)]
        after = marked_after(marked, key)
        if after is not None:
            marked = after
            pressed += key
    return pressed


def wandering_lists():
    """Key lists of 400 keys, most of which lead to long states of all shapes."""
    mixes = ("abc([{<>-", "aaaaab([{<<>", "([{(<>>)]}", "a<", "(a<", "()<<", "a(<)>", "xyz[]{}()<>-", "({[ab<<<>]})--")
    return [wandering_keys(seed, signs, 400) for seed in range(1, 4) for signs in mixes]


def end_of(keys):
    """The state that a key list which is not blocked reaches from the empty state."""
    marked = "|"
    for key in keys:
        marked = marked_after(marked, key)
    return state_of(marked)


class CallChecks(unittest.TestCase):
    """What the tests of several functions ask for in the same way."""

    def assert_raises_exactly(self, kind, function, *arguments):
        """The call raises an error of exactly this class, which is returned."""
        with self.assertRaises(kind) as caught:
            function(*arguments)
        self.assertIs(type(caught.exception), kind)
        return caught.exception

    def assert_checks_texts(self, functions):
        """Each function of a text raises InvalidTextError for all that is none."""
        for function in functions:
            for text in BAD_TEXTS + NOT_STRINGS:
                with self.subTest(function=function.__name__, text=text):
                    self.assert_raises_exactly(InvalidTextError, function, text)
            self.assert_arguments_unchanged(function)

    def assert_checks_states(self, functions):
        """Each function of a state raises InvalidStateError for all that is none."""
        for function in functions:
            for state in bad_states():
                with self.subTest(function=function.__name__, state=state):
                    self.assert_raises_exactly(InvalidStateError, function, state)
            self.assert_arguments_unchanged(function)

    def assert_checks_keys(self, functions):
        """Each function of a key list, pressed from the empty state, raises its errors in their order."""
        unlike = [(keys, index, InvalidKeysError) for keys, index in BAD_KEYS + BAD_BLOCKED_KEYS]
        unlike += [(keys, None, InvalidKeysError) for keys in NOT_STRINGS]
        unlike += [(keys, index, BlockedKeyError) for keys, index in BLOCKED_KEYS]
        for function in functions:
            for keys, index, kind in unlike:
                with self.subTest(function=function.__name__, keys=keys):
                    error = self.assert_raises_exactly(kind, function, keys)
                    self.assertTrue(is_exactly(error.index, index), error.index)
            self.assert_arguments_unchanged(function)

    def assert_new_lists(self, function, argument):
        """Changing a returned list changes no later result, and no two lists are the same one."""
        first = function(argument)
        found = lists_in([first, function(argument)])
        self.assertEqual(len({id(one) for one in found}), len(found))
        expected = copy.deepcopy(first)
        for one in lists_in(first):
            one.append("changed")
        self.assertTrue(is_exactly(function(argument), expected))
        for one in lists_in(first):
            one.clear()
        self.assertTrue(is_exactly(function(argument), expected))

    def assert_arguments_unchanged(self, function, *others):
        """Values that are not allowed are not changed either."""
        for value in ([["a"], 0], (["(", ")"], [1]), ["a", 1, ["("]], {"a": [1]}):
            before = copy.deepcopy(value)
            self.assertRaises(AutoclosingError, function, value, *others)
            self.assertTrue(is_exactly(value, before))


def is_exactly(value, other):
    """Whether two values are equal and of the same kinds, down to the innermost ones."""
    if type(value) is not type(other) or value != other:
        return False
    if type(value) in (list, tuple):
        return all(is_exactly(one, two) for one, two in zip(value, other))
    return True


def lists_in(value):
    """All lists within a value, itself included."""
    found = [value] if isinstance(value, list) else []
    if isinstance(value, (list, tuple)):
        for part in value:
            found += lists_in(part)
    return found
