"""README.md says how to use the program and how to run its tests."""

import ast
import re
import unittest
from pathlib import Path

README = (Path(__file__).resolve().parent.parent / "README.md").read_text(encoding="utf-8")


class Readme(unittest.TestCase):
    def test_its_example_answers_what_it_says(self):
        code = re.search(r"```python\n(.*?)```", README, re.DOTALL).group(1)
        said = re.search(r"^# (\[.*\])$", code, re.MULTILINE).group(1)
        names = {}
        exec(code, names)
        self.assertEqual(names["given"], ast.literal_eval(said))

    def test_it_tells_how_to_run_the_tests(self):
        self.assertIn("## How to run its tests", README)
        self.assertIn("python3 -m unittest", README)
