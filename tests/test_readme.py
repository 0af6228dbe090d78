"""The example of README.md: what it says that it prints is what it prints."""

import contextlib
import io
import re
import unittest
from pathlib import Path

README = Path(__file__).resolve().parent.parent / "README.md"


class Readme(unittest.TestCase):

    def test_the_example(self):
        code = re.search(r"```python\n(.*?)```", README.read_text("utf-8"), re.DOTALL).group(1)
        said = re.findall(r"^ *print\(.*?\) +# (.*)$", code, re.MULTILINE)
        self.assertEqual(len(said), code.count("print("))
        told = io.StringIO()
        with contextlib.redirect_stdout(told):
            exec(code, {})
        rows = told.getvalue().splitlines()
        self.assertEqual(len(rows), len(said))
        for row, wanted in zip(rows, said):
            # Behind what is printed a remark may stand.
            self.assertTrue(wanted == row or wanted.startswith(row + ", "), (row, wanted))

    def test_each_file_is_named(self):
        text = README.read_text("utf-8")
        for path in (README.parent / "fifthhost").glob("*.py"):
            if path.stem != "__init__":
                self.assertIn(path.name, text)


if __name__ == "__main__":
    unittest.main()
