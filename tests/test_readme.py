"""The examples of README.md run, have the values that stand behind them, and raise the errors that they name."""

import ast
import pathlib
import re
import unittest

README = pathlib.Path(__file__).resolve().parent.parent / "README.md"


def value_in(comment):
    """The literal with which a comment begins, in a list, or an empty list."""
    for end in range(len(comment), 0, -1):
        if re.match(r"[\w']", comment[end - 1]) is None and comment[end - 1] not in ")]}":
            continue
        try:
            return [ast.literal_eval(comment[:end])]
        except (SyntaxError, ValueError):
            continue
    return []


class ReadmeTest(unittest.TestCase):

    def test_examples(self):
        names, compared, raised = {}, 0, 0
        for block in re.findall(r"```python\n(.*?)```", README.read_text(), re.DOTALL):
            lines = block.splitlines()
            for node in ast.parse(block).body:
                text = "\n".join(lines[node.lineno - 1:node.end_lineno])
                comment = text.partition("  # ")[2].strip()
                if comment.startswith("raises "):
                    self.assertRaisesRegex(Exception, "", exec, text, names)
                    raised += 1
                elif isinstance(node, ast.Expr):
                    value = eval(text.strip(), names)
                    for expected in value_in(comment):
                        self.assertEqual(expected, value, text)
                        compared += 1
                else:
                    exec(text, names)
        self.assertEqual(1, raised)
        self.assertGreater(compared, 60)


if __name__ == "__main__":
    unittest.main()
