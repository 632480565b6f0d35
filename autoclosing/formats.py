"""Strings: writing states and roles, and reading them."""

from autoclosing.errors import InvalidFormatError, InvalidRolesError
from autoclosing.texts import check_state, is_integer, is_state

SIGN_OF_ROLE = {"insert": "i", "exit": "x", "pass": "p"}
ROLE_OF_SIGN = {"i": "insert", "x": "exit", "p": "pass"}
DIGITS = "0123456789"
MOST_DIGITS = 31


def format_state(state):
    """The string of the state."""
    check_state(state)
    text, cursor = state
    return text[:cursor] + "|" + text[cursor:]


def parse_state(text):
    """The state with this string."""
    if not isinstance(text, str):
        raise InvalidFormatError("not a string")
    left, bar, right = text.partition("|")
    state = (left + right, len(left))
    # With a second `|` what is right of the first one is no part of a text.
    if bar == "" or not is_state(state):
        raise InvalidFormatError("not the string of a state")
    return state


def is_role(value):
    """Whether the value is a role with an index from 0 on."""
    # Exactly a tuple, as the document asks: a subclass of it is none.
    if type(value) != tuple or len(value) != 2:
        return False
    name, index = value
    # A dict cannot look up every value, a list for example, so the name has to be a string first.
    return isinstance(name, str) and name in SIGN_OF_ROLE and is_integer(index) and index >= 0


def format_role(role):
    """The word of a role or of None."""
    if role is None:
        return "-"
    name, index = role
    return f"{SIGN_OF_ROLE[name]}{index}"


def format_roles(roles):
    """The string of a list of roles."""
    # Exactly a list, as the document asks: a subclass of it is none.
    if type(roles) != list or not all([role is None or is_role(role) for role in roles]):
        raise InvalidRolesError("not a list of roles")
    return " ".join([format_role(role) for role in roles])


def is_index(digits):
    """Whether the string is an index in decimal digits without leading zeros."""
    if digits == "" or len(digits) > MOST_DIGITS or not all([sign in DIGITS for sign in digits]):
        return False
    return digits == "0" or digits[0] != "0"


def parse_role(word):
    """The role or None with this word."""
    if word == "-":
        return None
    if word[:1] not in ROLE_OF_SIGN or not is_index(word[1:]):
        raise InvalidFormatError("not the word of a role")
    return ROLE_OF_SIGN[word[0]], int(word[1:])


def parse_roles(text):
    """The list of roles with this string."""
    if not isinstance(text, str):
        raise InvalidFormatError("not a string")
    if text == "":
        return []
    return [parse_role(word) for word in text.split(" ")]
