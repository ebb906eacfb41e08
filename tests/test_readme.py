"""README.md says how to use the program and how to run its tests."""

import ast
import re
import unittest
from pathlib import Path

from tests.helpers import NUMBER_OF_CALL

TOP = Path(__file__).resolve().parent.parent
README = (TOP / "README.md").read_text(encoding="utf-8")
PACKAGE = TOP / "keptgroupings"


class Readme(unittest.TestCase):
    def test_its_examples_answer_what_it_says(self):
        names = {}
        examples = re.findall(r"```python\n(.*?)```", README, re.DOTALL)
        self.assertEqual(len(examples), 2)
        for code in examples:
            said = re.search(r"^# (\[.*\])$", code, re.MULTILINE).group(1)
            exec(code, names)
            self.assertEqual(names["given"], ast.literal_eval(said))

    def test_it_tells_how_to_run_the_tests(self):
        self.assertIn("## How to run its tests", README)
        self.assertIn("python3 -m unittest", README)

    def test_it_tells_all_calls_with_their_numbers(self):
        for name, number in NUMBER_OF_CALL.items():
            with self.subTest(call=name):
                self.assertRegex(README, rf"(?m)^\| {name} \| `{number}\b")

    def test_it_tells_all_files(self):
        for path in PACKAGE.glob("*.py"):
            if path.name != "__init__.py":
                with self.subTest(file=path.name):
                    self.assertIn(f"| `{path.name}` |", README)
