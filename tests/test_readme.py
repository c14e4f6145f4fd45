"""That what README.md shows is so."""

import re
import unittest
from pathlib import Path

README = Path(__file__).resolve().parent.parent / "README.md"


class Shown(unittest.TestCase):
    def test_its_code_runs(self):
        code = re.findall(r"```python\n(.*?)```", README.read_text(), re.S)
        self.assertTrue(code)
        exec("\n".join(code), {})

    def test_each_file_is_told(self):
        said = README.read_text()
        for path in (README.parent / "wiretongue").glob("*.py"):
            if path.name != "__init__.py":
                self.assertIn(f"`{path.name}`", said)


if __name__ == "__main__":
    unittest.main()
