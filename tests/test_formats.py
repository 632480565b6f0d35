"""Promises [2], [3] and [16]: strings of states and of lists of roles."""

import copy
import itertools
import re
import unittest

from autoclosing.errors import InvalidFormatError, InvalidRolesError
from autoclosing.formats import format_roles, format_state, parse_roles, parse_state
from autoclosing.roles import needed_roles, roles_of
from tests.helpers import (
    BAD_TEXTS, LONG_TEXTS, NESTED, NOT_STRINGS, CallChecks, OtherTuple, end_of, is_exactly, reached_by_all,
    reduces_to_nothing, states_up_to, strings_up_to, wandering_lists,
)

NAMES = ("insert", "exit", "pass")
LARGEST = 10 ** 31 - 1


class OtherList(list):
    """A kind of its own: not exactly a list."""


# Values of all kinds that are neither roles nor None.
BAD_ROLES = [value for value in NOT_STRINGS if value is not None] + [
    "", "-", "i0", "insert", ("insert",), ("insert", 0, 0), ("insert", 0, None), (0, "insert"), (None, 0), (None, None),
    ["insert", 0], [], [None], OtherTuple(("insert", 0)), (("insert", 0),), ("insert", (0,)), ("insert", [0]),
    ("insert", -1), ("exit", -1), ("pass", -2), ("insert", -10 ** 30), ("insert", True), ("exit", False),
    ("pass", True), ("insert", None), ("insert", "0"), ("insert", ""), ("insert", 0.0), ("insert", 1.5),
    ("insert", b"0"), ("insert", float("nan")), ("insert", float("inf")), ("insert", 1j),
    ("Insert", 0), ("INSERT", 0), ("inserts", 0), ("inser", 0), ("i", 0), ("x", 0), ("p", 0), ("-", 0), ("", 0),
    ("enter", 0), ("idle", 0), ("exit ", 0), (" pass", 0), ("pass\n", 0), (b"insert", 0), (["insert"], 0),
    (("insert",), 0), ({"insert": 0}, 0), ({"insert"}, 0), (0, 0), (True, 0), (str, 0), ("insert", {}),
    ("insert", set()),
]


class FormatState(CallChecks):

    def test_examples_of_the_document(self):
        self.assertEqual(format_state(("(a)b", 2)), "(a|)b")

    def test_edges(self):
        self.assertTrue(is_exactly(format_state(("", 0)), "|"))
        self.assertEqual([format_state(("a", cursor)) for cursor in range(2)], ["|a", "a|"])
        for text in ("()", "[]", "{}"):
            found = [format_state((text, cursor)) for cursor in range(3)]
            self.assertEqual(found, ["|" + text, text[0] + "|" + text[1], text + "|"])
        self.assertEqual(format_state((NESTED, 75)), "(" * 75 + "|" + ")" * 75)
        self.assertEqual(format_state(("a" * 150, 0)), "|" + "a" * 150)
        self.assertEqual(format_state(("a" * 150, 150)), "a" * 150 + "|")
        self.assertEqual(format_state(("z" * 1000, 999)), "z" * 999 + "|z")

    def test_small_and_long_states(self):
        states = states_up_to("a()[]", 5) + states_up_to("yz{}", 4)
        states += [(text, cursor) for text in LONG_TEXTS for cursor in (0, 1, 75, len(text))]
        for text, cursor in states:
            found = format_state((text, cursor))
            self.assertIs(type(found), str)
            self.assertEqual(list(found), list(text[:cursor]) + ["|"] + list(text[cursor:]))

    def test_each_state_has_a_string_of_its_own(self):
        states = states_up_to("ab()[]", 4)
        self.assertEqual(len({format_state(state) for state in states}), len(states))

    def test_wrong_states(self):
        self.assert_checks_states([format_state])

    def test_by_name(self):
        self.assertEqual(format_state(state=("a", 1)), "a|")


class ParseState(CallChecks):

    def test_examples_of_the_document(self):
        self.assertTrue(is_exactly(parse_state("(a|)b"), ("(a)b", 2)))

    def test_edges(self):
        self.assertTrue(is_exactly(parse_state("|"), ("", 0)))
        self.assertEqual(parse_state("(" * 75 + "|" + ")" * 75), (NESTED, 75))
        self.assertEqual(parse_state("a" * 150 + "|"), ("a" * 150, 150))
        self.assertEqual(parse_state("|" + "(a)" * 1333), ("(a)" * 1333, 0))
        self.assertEqual(parse_state("[" * 1999 + "|a" + "]" * 1999), ("[" * 1999 + "a" + "]" * 1999, 1999))
        self.assertEqual(parse_state("a" * 3999 + "|"), ("a" * 3999, 3999))

    def test_what_was_formatted(self):
        states = states_up_to("a()[]", 6) + states_up_to("bcz{}", 4) + [end_of(keys) for keys in wandering_lists()]
        for state in states + [(text, cursor) for text in LONG_TEXTS for cursor in range(len(text) + 1)]:
            self.assertTrue(is_exactly(parse_state(format_state(state)), state), state)

    def test_all_short_strings(self):
        for text in strings_up_to("a()|", 6):
            if text.count("|") == 1 and reduces_to_nothing(text.replace("|", "")):
                state = parse_state(text)
                self.assertTrue(is_exactly(state, (text.replace("|", ""), text.index("|"))))
                self.assertEqual(format_state(state), text)
            else:
                self.assert_raises_exactly(InvalidFormatError, parse_state, text)

    def test_the_number_of_cursors(self):
        for text in ("", "a", "()", "(a)b", "a" * 150, "a" * 4000, NESTED):
            self.assert_raises_exactly(InvalidFormatError, parse_state, text)
        for text in ("||", "|a|", "a||", "||a", "(||)", "|()|", "(|a|)b", "|||", "|" * 4000):
            self.assert_raises_exactly(InvalidFormatError, parse_state, text)

    def test_what_is_no_text(self):
        for text in BAD_TEXTS:
            for wrong in ("|" + text, text + "|", text[:1] + "|" + text[1:]):
                with self.subTest(wrong=wrong):
                    self.assert_raises_exactly(InvalidFormatError, parse_state, wrong)
        for wrong in ("(|", "|)", ")|(", "(|]", "[(|])", "a |", "|\n", "\n|", "a|\n", " |", "| ", "A|", "1|", "a|-",
                      "<|>", "(a|)b ", " (a|)b", "(a|)b\n", "i|0", "\u00e9|", "\x00|", "(" * 2000 + "|" + ")" * 1999):
            with self.subTest(wrong=wrong):
                self.assert_raises_exactly(InvalidFormatError, parse_state, wrong)

    def test_every_character(self):
        for code in list(range(128)) + [0xe9, 0x2502, 0xff5c, 0x430, 0x1f600]:
            sign = chr(code)
            if "a" <= sign <= "z":
                self.assertEqual(parse_state(sign + "|"), (sign, 1))
            elif sign == "|":
                self.assertEqual(parse_state(sign), ("", 0))
            else:
                self.assert_raises_exactly(InvalidFormatError, parse_state, sign + "|")
                self.assert_raises_exactly(InvalidFormatError, parse_state, "a|b" + sign)

    def test_other_values(self):
        for value in NOT_STRINGS + (("a", 1), ["|"], b"|", ("|",), {"|": 0}, ["a", "|"]):
            with self.subTest(value=value):
                self.assert_raises_exactly(InvalidFormatError, parse_state, value)
        value = ["a", ["|"]]
        self.assert_raises_exactly(InvalidFormatError, parse_state, value)
        self.assertEqual(value, ["a", ["|"]])

    def test_by_name(self):
        self.assertEqual(parse_state(text="a|"), ("a", 1))


class FormatRoles(CallChecks):

    def test_examples_of_the_document(self):
        self.assertEqual(format_roles([("insert", 0), None, ("exit", 0)]), "i0 - x0")

    def test_the_empty_list(self):
        self.assertTrue(is_exactly(format_roles([]), ""))

    def test_single_roles(self):
        for name, letter in (("insert", "i"), ("exit", "x"), ("pass", "p")):
            for index in (0, 1, 9, 10, 99, 100, 149, 12345678901234567890, 10 ** 30, LARGEST):
                self.assertTrue(is_exactly(format_roles([(name, index)]), letter + str(index)))
        self.assertEqual(format_roles([None]), "-")
        self.assertEqual(format_roles([None] * 200), " ".join("-" * 200))
        self.assertEqual(format_roles([("pass", LARGEST)]), "p" + "9" * 31)

    def test_they_need_not_be_those_of_a_key_list(self):
        roles = [("pass", 7), ("pass", 7), None, ("exit", 10 ** 20), ("insert", 0), ("insert", 0)]
        self.assertEqual(format_roles(roles), "p7 p7 - x100000000000000000000 i0 i0")

    def test_roles_of_key_lists(self):
        self.assertEqual(format_roles(roles_of("b<(a")), "i3 p3 i0 i1")
        self.assertEqual(format_roles(roles_of("()<>")), "i0 - - x0")
        self.assertEqual(format_roles(roles_of("a" * 400)), " ".join(f"i{index}" for index in range(400)))
        self.assertEqual(format_roles(needed_roles(("(a)b", 2))), "i0 i1 i3 p3")

    def test_each_list_has_a_string_of_its_own(self):
        items = [None] + [(name, index) for name in NAMES for index in (0, 1, 10)]
        lists = [list(roles) for many in range(4) for roles in itertools.product(items, repeat=many)]
        self.assertEqual(len({format_roles(roles) for roles in lists}), len(lists))

    def test_what_is_no_list(self):
        values = [value for value in NOT_STRINGS if not isinstance(value, list)]
        values += ["", "-", "i0", "i0 - x0", (("insert", 0),), (None,), ("insert", 0), {("insert", 0): 1},
                   {("insert", 0)}, OtherList(), OtherList([None]), iter([None]), range(0), {None: None}]
        for value in values:
            with self.subTest(value=value):
                self.assert_raises_exactly(InvalidRolesError, format_roles, value)

    def test_lists_of_other_items(self):
        for item in BAD_ROLES:
            for roles in ([item], [("insert", 0), item], [item, None], [None, ("exit", 1), item, ("pass", 2)]):
                with self.subTest(roles=roles):
                    self.assert_raises_exactly(InvalidRolesError, format_roles, roles)

    def test_no_argument_is_changed(self):
        for roles in ([("insert", 0), None], [None], []):
            before = copy.deepcopy(roles)
            format_roles(roles)
            self.assertTrue(is_exactly(roles, before))
        for roles in ([["insert", 0]], [("insert", [0])], [None, []]):
            before = copy.deepcopy(roles)
            self.assertRaises(InvalidRolesError, format_roles, roles)
            self.assertTrue(is_exactly(roles, before))

    def test_by_name(self):
        self.assertEqual(format_roles(roles=[("exit", 5)]), "x5")


class ParseRoles(CallChecks):

    def assert_no_roles(self, texts):
        """None of the strings is that of a list of roles."""
        for text in texts:
            with self.subTest(text=text):
                self.assert_raises_exactly(InvalidFormatError, parse_roles, text)

    def test_examples_of_the_document(self):
        self.assert_no_roles(["i0 p03"])
        self.assertTrue(is_exactly(parse_roles("i0 - x0"), [("insert", 0), None, ("exit", 0)]))

    def test_the_empty_string(self):
        self.assertTrue(is_exactly(parse_roles(""), []))

    def test_single_words(self):
        for name, letter in (("insert", "i"), ("exit", "x"), ("pass", "p")):
            for index in (0, 1, 9, 10, 99, 100, 149, 12345678901234567890, 10 ** 30, LARGEST):
                self.assertTrue(is_exactly(parse_roles(letter + str(index)), [(name, index)]))
        self.assertEqual(parse_roles("-"), [None])

    def test_31_digits_and_more(self):
        for letter in "ixp":
            for digits in ("1" * 31, "9" * 31, "1" + "0" * 30):
                self.assertEqual(parse_roles(letter + digits)[0][1], int(digits))
                self.assert_no_roles([letter + digits + "0", "- " + letter + digits + "1", letter + "0" + digits])
            self.assert_no_roles([letter + "1" * 32, letter + "1" * 100, letter + "9" * 3999, letter + "0" * 32])

    def test_what_was_formatted(self):
        items = [None] + [(name, index) for name in NAMES for index in (0, 7, 10, LARGEST)]
        for many in range(4):
            for roles in itertools.product(items, repeat=many):
                self.assertTrue(is_exactly(parse_roles(format_roles(list(roles))), list(roles)))
        for keys in list(reached_by_all("a(<>-", 5)) + wandering_lists():
            roles = roles_of(keys)
            self.assertTrue(is_exactly(parse_roles(format_roles(roles)), roles), keys)
        roles = [("pass", LARGEST)] * 121
        self.assertTrue(is_exactly(parse_roles(format_roles(roles)), roles))

    def test_4000_characters(self):
        self.assertEqual(parse_roles("- " * 1999 + "i0"), [None] * 1999 + [("insert", 0)])
        self.assert_no_roles(["- " * 2000, "-" * 4000, " " * 4000, "i" * 4000, "0" * 4000, "i0\n" * 1333])

    def test_all_short_strings(self):
        word = "(?:-|[ixp](?:0|[1-9][0-9]*))"
        for signs, longest in (("ip01- ", 5), ("x9-\n ", 5)):
            for text in strings_up_to(signs, longest):
                if text == "" or re.fullmatch(f"{word}(?: {word})*", text):
                    self.assertEqual(format_roles(parse_roles(text)), text)
                else:
                    self.assert_no_roles([text])

    def test_leading_zeros(self):
        self.assert_no_roles(["i00", "x01", "p007", "i0 x00", "i00 x0", "p" + "0" * 31, "i-0", "i+1", "i 1"])

    def test_spaces_and_newlines(self):
        self.assert_no_roles([" ", "  ", " i0", "i0 ", "i0  x0", "-  -", " -", "- ", "i0 - x0 ", " i0 - x0"])
        self.assert_no_roles(["\n", "i0\n", "\ni0", "i0\nx0", "i0 \nx0", "i0\n x0", "-\n", "-\n-", "i\n0"])
        self.assert_no_roles(["i0\tx0", "i0\r", "i0\u00a0x0", "i0\u2003x0", "i0\x0bx0", "i0\x1fx0"])

    def test_unknown_words(self):
        self.assert_no_roles(["a", "a0", "I0", "X0", "P0", "n0", "insert0", "insert", "None", "ii0", "ix0", "i0x0"])
        self.assert_no_roles(["i0i1", "0", "0i", "1", "--", "-0", "0-", "i-", "-i0", "i0-", "i0 -- x0", "i0 q0 x0", "~"])
        self.assert_no_roles(["i0,x0", "i0;x0", "i0|x0", "i0.0", "i1e3", "i1_0", "i0x1f", "x0b1", "i(0)"])

    def test_words_without_an_index(self):
        self.assert_no_roles(["i", "x", "p", "i x", "i0 x", "p i0", "- i", "i -"])

    def test_digits_and_letters_of_other_alphabets(self):
        self.assert_no_roles(["i\u0661", "i\u00b2", "x\u0967", "p\uff11", "i1\u0662", "i\u2460", "i\U0001d7d8"])
        self.assert_no_roles(["\u04560", "\u04450", "\u04400", "\u22120", "\u2212", "i\x00", "i0\x00"])

    def test_other_values(self):
        for value in NOT_STRINGS + (["i0"], ("i0",), b"i0", b"-", [("insert", 0)], ["-"], [None], {"i0": 0}):
            with self.subTest(value=value):
                self.assert_raises_exactly(InvalidFormatError, parse_roles, value)
        value = ["i0", ["-"]]
        self.assert_raises_exactly(InvalidFormatError, parse_roles, value)
        self.assertEqual(value, ["i0", ["-"]])

    def test_each_list_is_new(self):
        for text in ("", "-", "i0 - x0", "p1 p1"):
            self.assert_new_lists(parse_roles, text)

    def test_by_name(self):
        self.assertEqual(parse_roles(text="x5"), [("exit", 5)])


if __name__ == "__main__":
    unittest.main()
