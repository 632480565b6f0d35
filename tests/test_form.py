"""The form of the package: its files, and where the interface is defined."""

import ast
import inspect
import pathlib
import unittest

from autoclosing import costs, counts, editor, errors, formats, further, keys, roles, series, shortest, texts

PACKAGE = pathlib.Path(errors.__file__).parent

INTERFACE = (
    (errors, "InvalidKeysError", ["index"]), (errors, "BlockedKeyError", ["index"]),
    (errors, "TooManyStatesError", ["count"]),
    (texts, "is_text", ["value"]), (texts, "is_state", ["value"]), (texts, "pairs_of", ["text"]),
    (texts, "enclosing_pairs", ["state"]), (texts, "level_items", ["state"]),
    (keys, "is_key_list", ["value"]), (keys, "run_keys", ["state", "keys"]),
    (keys, "states_after_each", ["state", "keys"]), (keys, "accepted_moves", ["state"]),
    (keys, "inverse_keys", ["state", "keys"]),
    (costs, "cost", ["state"]), (costs, "cost_profile", ["text"]), (costs, "fewest_keys", ["text"]),
    (costs, "best_cursors", ["text"]),
    (shortest, "lowering_keys", ["state"]), (shortest, "clearing_keys", ["state"]),
    (shortest, "building_keys", ["state"]), (shortest, "is_shortest", ["state", "value"]),
    (shortest, "shorten_keys", ["keys"]),
    (counts, "level_ways", ["state"]), (counts, "count_shortest", ["state"]),
    (counts, "count_all_shortest", ["state"]), (counts, "count_shortest_for", ["text"]),
    (roles, "roles_of", ["keys"]), (roles, "idle_keys", ["keys"]), (roles, "needed_roles", ["state"]),
    (series, "count_states", ["letters", "kinds", "total"]), (series, "count_left", ["letters", "kinds", "total"]),
    (series, "count_right", ["letters", "kinds", "total"]), (series, "list_states", ["letters", "kinds", "total"]),
    (further, "kept_after", ["state", "keys"]), (further, "is_kept", ["state", "target", "value"]),
    (further, "fewest_further", ["state", "target", "kept"]), (further, "further_keys", ["state", "target", "kept"]),
    (editor, "Editor", []),
    (formats, "format_state", ["state"]), (formats, "parse_state", ["text"]),
    (formats, "format_roles", ["roles"]), (formats, "parse_roles", ["text"]),
)

METHODS = (
    ("press", ["self", "keys"]), ("undo", ["self"]), ("redo", ["self"]), ("state", ["self"]), ("pressed", ["self"]),
    ("wasted", ["self"]), ("tidy", ["self"]), ("duplicate", ["self"]), ("__len__", ["self"]),
    ("__eq__", ["self", "other"]),
)


class Form(unittest.TestCase):

    def test_the_interface_is_defined_where_it_is_listed(self):
        for module, name, parameters in INTERFACE:
            with self.subTest(module=module, name=name):
                found = getattr(module, name)
                self.assertEqual(found.__module__, module.__name__)
                self.assertEqual(list(inspect.signature(found).parameters), parameters)

    def test_the_methods_are_defined_in_their_class(self):
        for name, parameters in METHODS:
            with self.subTest(name=name):
                found = vars(editor.Editor)[name]
                self.assertEqual(found.__module__, editor.__name__)
                self.assertEqual(found.__qualname__, "Editor." + name)
                self.assertEqual(list(inspect.signature(found).parameters), parameters)

    def test_the_package_holds_nothing_but_its_files(self):
        # Python itself may put __pycache__ there.
        found = [path for path in PACKAGE.rglob("*") if "__pycache__" not in path.parts]
        self.assertEqual([path for path in found if path.suffix != ".py"], [])
        self.assertIn(PACKAGE / "__init__.py", found)

    def test_sizes_and_characters(self):
        for path in PACKAGE.rglob("*.py"):
            source = path.read_bytes().decode("ascii")
            with self.subTest(path=path.name):
                self.assertLessEqual(len(source.splitlines()), 399)
                self.assertLessEqual(max(len(line) for line in source.split("\n")), 120)
                self.assertTrue(all(sign == "\n" or " " <= sign <= "~" for sign in source))
                for node in ast.walk(ast.parse(source)):
                    if isinstance(node, ast.FunctionDef):
                        self.assertLessEqual(node.end_lineno - node.lineno + 1, 40, node.name)


if __name__ == "__main__":
    unittest.main()
