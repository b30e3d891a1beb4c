"""README.md: its code runs and tells what stands beside it, and it names all files."""

import re
import unittest
from pathlib import Path

TOP = Path(__file__).resolve().parent.parent
README = (TOP / "README.md").read_text()


def rows_of_code():
    """The pairs of a row of code and the note beside it."""
    blocks = re.findall(r"```python\n(.*?)```", README, re.S)
    return [tuple(part.strip() for part in row.partition("#")[::2]) for row in "".join(blocks).split("\n") if row.strip()]


class Readme(unittest.TestCase):

    def test_code(self):
        names = {}
        told = 0
        for code, note in rows_of_code():
            if re.match(r"(from \S+ import|\w+ = |\w+, \w+ = )", code):
                exec(code, names)
                continue
            answer = eval(code, names)
            # A note is what is told, with some words behind it, or words alone where nothing is told.
            wanted = re.split(r": (?=[a-z])", note)[0]
            if answer is not None or wanted == "None":
                told += 1
                self.assertEqual(answer, eval(wanted), code)
        self.assertGreater(told, 40)

    def test_files(self):
        for path in (TOP / "sameforms").glob("*.py"):
            if path.name != "__init__.py":
                self.assertIn(f"| `{path.name}` |", README)


if __name__ == "__main__":
    unittest.main()
