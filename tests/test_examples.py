"""The examples of the document, with the answers and the errors that it tells."""

import os
import unittest

from rowvault.errors import VaultError

FILE = os.path.join(os.path.dirname(__file__), "examples.txt")


def lines_of(path):
    with open(path, encoding="ascii") as file:
        return [line.rstrip("\n") for line in file if not line.startswith("#")]


def outcome(code, names):
    """What the document writes below such a line: the value, the error with its fields, or nothing."""
    try:
        try:
            compiled = compile(code, "<example>", "eval")
        except SyntaxError:
            exec(code, names)
            return None
        value = eval(compiled, names)
        return None if value is None else repr(value)
    except VaultError as error:
        fields = ", ".join(repr(value) for value in vars(error).values())
        return f"raises {type(error).__name__}({fields})"


class Examples(unittest.TestCase):
    def test_examples(self):
        names = {}
        lines = lines_of(FILE)
        done = 0
        for at, line in enumerate(lines):
            if not line.startswith(">>> "):
                continue
            below = lines[at + 1] if at + 1 < len(lines) else ">>> "
            expected = None if below.startswith(">>> ") else below
            with self.subTest(line=line):
                told = outcome(line[4:], names)
                # Where the document tells no fields of an error, its class counts.
                bare = expected is not None and expected.startswith("raises ") and "(" not in expected
                self.assertEqual(told.split("(")[0] if bare else told, expected)
            done += 1
        self.assertEqual(done, 216)


if __name__ == "__main__":
    unittest.main()
