"""The examples of the document, as they stand there, and those of the README."""

import pathlib
import unittest

from lotkept import errors

HERE = pathlib.Path(__file__).resolve().parent
EXAMPLES = (HERE / "document_examples.txt").read_text().strip().split("\n\n")
README = (HERE.parent / "README.md").read_text()


def run(line, names):
    """The value of a line, or None if it is a statement."""
    try:
        code = compile(line, "example", "eval")
    except SyntaxError:
        exec(line, names)
        return None
    return eval(code, names)


def attributes(error):
    return type(error), vars(error)


class ExampleTest(unittest.TestCase):
    def check_raises(self, line, names, shown):
        word = shown.partition("(")[0]
        with self.assertRaises(getattr(errors, word)) as caught:
            run(line, names)
        self.assertIs(type(caught.exception), getattr(errors, word))
        if "(" in shown:
            expected = eval(shown, vars(errors) | {})
            self.assertEqual(attributes(caught.exception), attributes(expected), shown)

    def check(self, example, names):
        lines = example.split("\n")
        for at, line in enumerate(lines):
            if not line.startswith(">>> "):
                continue
            following = lines[at + 1] if at + 1 < len(lines) else ">>> "
            if following.startswith("raises "):
                self.check_raises(line[4:], names, following[7:])
                continue
            value = run(line[4:], names)
            if not following.startswith(">>> "):
                self.assertEqual(repr(value), following, line)

    def test_every_example(self):
        for example in EXAMPLES:
            with self.subTest(example=example):
                self.check(example, {})

    def test_there_are_results_to_compare(self):
        shown = [line for example in EXAMPLES for line in example.split("\n") if not line.startswith(">>> ")]
        self.assertEqual((len(EXAMPLES), len(shown)), (53, 53))

    def test_the_examples_of_the_readme(self):
        names = {}
        blocks = [block.strip() for block in README.split("```") if block.strip().startswith(">>> ")]
        self.assertEqual(len(blocks), 4)
        for block in blocks:
            # They follow one another, so each one has the names of those before.
            self.check(block, names)


if __name__ == "__main__":
    unittest.main()
