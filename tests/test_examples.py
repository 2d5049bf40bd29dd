"""Runs the examples of examples.txt, each as a session of its own."""

import ast
import pathlib
import unittest

EXAMPLES = (pathlib.Path(__file__).resolve().parent / "examples.txt").read_text().strip().split("\n\n")


def shown(names, source):
    """Return what a session shows for this line: nothing, a value, or the error with its attributes."""
    try:
        if isinstance(ast.parse(source).body[0], ast.Expr):
            return repr(eval(source, names))
        exec(source, names)
        return ""
    except ValueError as error:
        kept = ", ".join(f"{name}={value!r}" for name, value in vars(error).items())
        return f"raises {type(error).__name__}({kept})"


class Examples(unittest.TestCase):
    def test_all(self):
        self.assertEqual(len(EXAMPLES), 15)
        for example in EXAMPLES:
            names = {}
            for part in example.removeprefix(">>> ").split("\n>>> "):
                source, _, wanted = part.partition("\n")
                self.assertEqual(shown(names, source), wanted, source)
