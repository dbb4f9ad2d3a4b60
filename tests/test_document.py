"""The examples of the document, in examples.txt just as they stand there."""

import ast
import importlib
import os
import unittest

from moredone.errors import RuleError

FOLDER = os.path.dirname(os.path.abspath(__file__))
DOCUMENT = os.path.join(os.path.dirname(os.path.dirname(FOLDER)), "shared", "DOC.md")
MODULES = "words bases rules standings losses weaves leads coarse asks numbers costs books board texts desk".split()


def examples(lines):
    """The pairs of what is called and what is shown for it, None where nothing is."""
    found = []
    for line in lines:
        if line.startswith(">>> "):
            found.append((line[4:], None))
        elif line and not line.startswith("# "):
            found[-1] = (found[-1][0], line)
    return found


def told(code, names):
    """What is shown for a call: the value as Python writes it, or the error with what it keeps."""
    if not isinstance(ast.parse(code).body[0], ast.Expr):
        exec(code, names)
        return None
    try:
        return repr(eval(code, names))
    except RuleError as error:
        kept = ", ".join(f"{name}={value!r}" for name, value in vars(error).items())
        return f"raises {type(error).__name__}({kept})"


def read(path):
    with open(path, encoding="utf-8") as file:
        return file.read().split("\n")


class Document(unittest.TestCase):
    def test_each_example_gives_just_what_is_shown(self):
        # A name that an example gives to something is used by later ones, too.
        names = {}
        for module in MODULES:
            names.update(vars(importlib.import_module("moredone." + module)))
        rows = examples(read(os.path.join(FOLDER, "examples.txt")))
        self.assertEqual(len(rows), 110)
        for code, shown in rows:
            with self.subTest(code=code):
                self.assertEqual(told(code, names), shown)

    @unittest.skipUnless(os.path.isfile(DOCUMENT), "the document is not beside the checkout")
    def test_they_are_those_of_the_document(self):
        shown = [line[4:] for line in read(DOCUMENT) if line.startswith("    ")]
        written = [line for line in read(os.path.join(FOLDER, "examples.txt")) if line and not line.startswith("# ")]
        self.assertEqual(written, shown)


if __name__ == "__main__":
    unittest.main()
