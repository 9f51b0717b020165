import ast
import pathlib
import re
import unittest

README = pathlib.Path(__file__).resolve().parent.parent / "README.md"


class Readme(unittest.TestCase):
    def test_what_it_shows_is_told(self):
        names = {}
        seen = 0
        for block in re.findall(r"```python\n(.*?)```", README.read_text(encoding="utf-8"), re.S):
            for row in block.splitlines():
                code, mark, told = row.partition("  # ")
                if not mark:
                    exec(code, names)
                elif " = " not in code:
                    wanted = told.split(": ")[0].strip()
                    self.assertEqual(eval(code.strip(), names), ast.literal_eval(wanted), row)
                    seen += 1
                else:
                    exec(code, names)
        self.assertGreater(seen, 10)


if __name__ == "__main__":
    unittest.main()
