import pathlib
import re
import unittest

README = pathlib.Path(__file__).resolve().parent.parent / "README.md"


class ReadmeTest(unittest.TestCase):
    def test_what_it_shows_is_told(self):
        code = re.search(r"```python\n(.*?)```", README.read_text(), re.DOTALL).group(1)
        names = {}
        shown = 0
        for row in code.splitlines():
            asked, mark, answer = row.partition("#")
            if mark:
                self.assertEqual(repr(eval(asked, names)), answer.split(": ")[0].strip(), asked)
                shown += 1
            else:
                exec(row, names)
        self.assertGreater(shown, 0)
