"""What several tests share: invalid values, and a second way to say what keys do.

The second way works on marked texts, which have a `|` at the cursor. It shares no code
with the package, so that one mistake is not made in both.
"""

import itertools
import re

ALL_KEYS = "abcdefghijklmnopqrstuvwxyz()[]{}<>-"

BAD_TEXTS = (
    "(", ")", "[", "]", "{", "}", ")(", "(]", "[)", "{)", "(a[)]", "([)]", "(()", "())", "((", "a)", "{a",
    " ", "a b", "A", "Z", "(A)", "0", "a1", "9", "\n", "a\n", "\t", "-", "<", ">", "<>", "|", "_", "`", "{`}", "~",
    "\u00e9", "\u00df", "a\u0301", "\u0430", "\uff41", "\uff08\uff09", "\ud800", "\x00",
)

NOT_STRINGS = (
    None, True, False, 0, 1, -1, 2.5, 1j, b"", b"a", b"()", bytearray(b"a"), (), ("a",), ("a", 1), [], ["a"],
    ["(", ")"], {}, {"a": 1}, set(), frozenset("a"), object(), str, len, range(2), iter("a"), NotImplemented, ...,
)


class OtherTuple(tuple):
    """A kind of its own: not exactly a tuple."""


def bad_states():
    """Values of all kinds that are not states."""
    bad = [value for value in NOT_STRINGS if value != ("a", 1)]
    bad += ["", "a", "()", "ab", ("",), (0,), ("", 0, 0), ("a", 1, None), (("", 0),), (0, ""), (1, "a")]
    bad += [["", 0], ["a", 1], {"": 0}, OtherTuple(("a", 1)), OtherTuple(("", 0))]
    bad += [("", -1), ("", 1), ("a", -1), ("a", 2), ("()", 3), ("()", -1), ("a", 10 ** 30), ("a", -10 ** 30)]
    bad += [("a", cursor) for cursor in (True, False, None, "1", "", 1.0, 0.0, b"1", (1,), [1], 1j)]
    bad += [(text, 0) for text in BAD_TEXTS + NOT_STRINGS]
    return bad


def reduces_to_nothing(text):
    """Whether a string is a text: take away letters, then empty pairs until none is left."""
    rest = re.sub("[a-z]", "", text)
    for _ in text:
        rest = rest.replace("()", "").replace("[]", "").replace("{}", "")
    return rest == ""


def strings_up_to(signs, longest):
    """All strings of these characters up to this length."""
    for length in range(longest + 1):
        for parts in itertools.product(signs, repeat=length):
            yield "".join(parts)


def texts_up_to(signs, longest):
    """All texts of these characters up to this length."""
    return [text for text in strings_up_to(signs, longest) if reduces_to_nothing(text)]


def states_up_to(signs, longest):
    """All states whose texts are those of texts_up_to."""
    return [(text, cursor) for text in texts_up_to(signs, longest) for cursor in range(len(text) + 1)]


def marked_after(marked, key):
    """The marked text after one key, None if it is blocked."""
    if key.isalpha():
        return marked.replace("|", key + "|")
    if key in "([{":
        return marked.replace("|", key + "|" + {"(": ")", "[": "]", "{": "}"}[key])
    rules = {
        "<": (r"(.)\|", r"|\1"),
        ">": (r"\|(.)", r"\1|"),
        "-": (r"[a-z]\||\(\|\)|\[\|\]|\{\|\}", "|"),
        ")": (r"\|\)", ")|"),
        "]": (r"\|\]", "]|"),
        "}": (r"\|\}", "}|"),
    }
    found, many = re.subn(rules[key][0], rules[key][1], marked, count=1)
    return found if many else None


def marked_of(state):
    """The marked text of a state."""
    text, cursor = state
    return text[:cursor] + "|" + text[cursor:]


def state_of(marked):
    """The state of a marked text."""
    return marked.replace("|", ""), marked.index("|")


def expected_after(state, key):
    """The state after one key, None if it is blocked."""
    marked = marked_after(marked_of(state), key)
    return None if marked is None else state_of(marked)


def expected_states(state, keys):
    """The states before the first key and after each key, and the first blocked position or None."""
    states = [state]
    for index, key in enumerate(keys):
        following = expected_after(states[-1], key)
        if following is None:
            return states, index
        states.append(following)
    return states, None


def expected_pairs(text):
    """The pairs: the shortest text from each opening bracket on ends with its closing one."""
    pairs = []
    for first, sign in enumerate(text):
        if sign in "([{":
            ends = [end for end in range(first + 2, len(text) + 1) if reduces_to_nothing(text[first:end])]
            pairs.append((first, ends[0] - 1))
    return pairs


def expected_cost(state):
    """The cost of a state as [9] defines it."""
    text, cursor = state
    pairs = expected_pairs(text)
    letters = [index for index, sign in enumerate(text) if sign.isalpha()]
    depth = len([pair for pair in pairs if pair[0] < cursor <= pair[1]])
    return 2 * (len(letters) + len(pairs)) - depth - len([index for index in letters if index < cursor])


def is_exactly(value, other):
    """Whether two values are equal and of the same kinds, down to the innermost ones."""
    if type(value) is not type(other) or value != other:
        return False
    if type(value) in (list, tuple):
        return all(is_exactly(one, two) for one, two in zip(value, other))
    return True


def lists_in(value):
    """All lists within a value, itself included."""
    found = [value] if isinstance(value, list) else []
    if isinstance(value, (list, tuple)):
        for part in value:
            found += lists_in(part)
    return found
