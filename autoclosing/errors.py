"""The errors of the package."""


class AutoclosingError(ValueError):
    """The base class of all errors of the package."""


class InvalidTextError(AutoclosingError):
    """A value is not a text."""


class InvalidStateError(AutoclosingError):
    """A value is not a state."""


class InvalidNumberError(AutoclosingError):
    """A value is not an integer in the range that is asked for."""


class InvalidKeptError(AutoclosingError):
    """A value is not a kept list, or characters are not kept."""


class InvalidRolesError(AutoclosingError):
    """A value is not a list of roles."""


class InvalidFormatError(AutoclosingError):
    """A value is not the string of what is asked for."""


class EmptyHistoryError(AutoclosingError):
    """There is no key to undo or to redo."""


class InvalidKeysError(AutoclosingError):
    """A value is not a key list."""

    def __init__(self, index):
        super().__init__(f"not a key list, index {index}")
        self.index = index


class BlockedKeyError(AutoclosingError):
    """A key is blocked."""

    def __init__(self, index):
        super().__init__(f"blocked key, index {index}")
        self.index = index


class TooManyStatesError(AutoclosingError):
    """There are too many states to list."""

    def __init__(self, count):
        super().__init__(f"too many states: {count}")
        self.count = count
