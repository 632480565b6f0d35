"""Editors: pressing keys, undoing them and pressing them again."""

from autoclosing.costs import cost
from autoclosing.errors import EmptyHistoryError
from autoclosing.keys import run_keys
from autoclosing.shortest import building_keys
from autoclosing.texts import EMPTY_STATE


class Editor:
    """A state with the keys that were pressed to reach it, and those that were undone."""

    def __init__(self):
        self._state = EMPTY_STATE
        self._pressed = ""
        # The key that was undone last stands first.
        self._undone = ""

    def press(self, keys):
        """Press all keys, or none if one of them is blocked."""
        self._state = run_keys(self._state, keys)
        if keys:
            self._pressed += keys
            self._undone = ""

    def undo(self):
        """Undo the last pressed key."""
        if not self._pressed:
            raise EmptyHistoryError("no key to undo")
        self._undone = self._pressed[-1] + self._undone
        self._pressed = self._pressed[:-1]
        # The key alone does not tell what it did: `-` has deleted a letter or a pair.
        self._state = run_keys(EMPTY_STATE, self._pressed)

    def redo(self):
        """Press the key that was undone last again."""
        if not self._undone:
            raise EmptyHistoryError("no key to redo")
        key = self._undone[0]
        self._state = run_keys(self._state, key)
        self._pressed += key
        self._undone = self._undone[1:]

    def state(self):
        """The state."""
        return self._state

    def pressed(self):
        """The pressed keys as a key list."""
        return self._pressed

    def wasted(self):
        """The number of pressed keys minus the cost of the state."""
        return len(self._pressed) - cost(self._state)

    def tidy(self):
        """Replace the pressed keys by the building list of the state."""
        self._pressed = building_keys(self._state)
        self._undone = ""

    def duplicate(self):
        """A new editor with the same pressed keys and the same undone keys."""
        other = Editor()
        other._state = self._state
        other._pressed = self._pressed
        other._undone = self._undone
        return other

    def __len__(self):
        return len(self._pressed)

    def __eq__(self, other):
        return isinstance(other, Editor) and self._state == other._state
