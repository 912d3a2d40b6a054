"""README.md: what its code tells is what the program tells."""

import ast
import contextlib
import io
import re
import unittest
from pathlib import Path

ROOT = Path(__file__).resolve().parent.parent
TEXT = (ROOT / "README.md").read_text(encoding="utf-8")


class Readme(unittest.TestCase):
    def test_each_line_with_an_answer_tells_it(self):
        names, asked = {}, 0
        for block in re.findall(r"```python\n(.*?)```", TEXT, re.S):
            lines = block.split("\n")
            printed = [line.partition("  # ")[2] for line in lines if line.strip().startswith("print(")]
            with contextlib.redirect_stdout(io.StringIO()) as shown:
                for part in ast.parse(block).body:
                    answer = lines[part.end_lineno - 1].partition("  # ")[2]
                    if isinstance(part, ast.Expr) and answer:
                        told = eval(compile(ast.Expression(part.value), "README.md", "eval"), names)
                        self.assertEqual(told, ast.literal_eval(answer), lines[part.end_lineno - 1])
                        asked += 1
                    else:
                        exec(compile(ast.Module([part], []), "README.md", "exec"), names)
            self.assertEqual(shown.getvalue().split("\n")[:-1], printed)
        self.assertGreater(asked, 20)

    def test_it_names_each_file_of_the_package(self):
        for path in (ROOT / "hollowrise").glob("*.py"):
            if path.name != "__init__.py":
                self.assertIn(f"`hollowrise/{path.name}`", TEXT)

    def test_it_tells_how_to_run_the_tests(self):
        self.assertIn("bash .ci/run", TEXT)


if __name__ == "__main__":
    unittest.main()
