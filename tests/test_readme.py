import pathlib
import re
import unittest

README = pathlib.Path(__file__).resolve().parent.parent / "README.md"


class ReadmeTest(unittest.TestCase):
    def test_what_it_shows_is_so(self):
        block = re.search(r"```python\n(.*?)```", README.read_text("ascii"), re.S).group(1)
        names = {}
        looked_at = 0
        for row in block.split("\n"):
            code, between, remark = row.partition("    # ")
            if not re.match(r"[a-z_.]+\(", code):
                exec(code, names)
                continue
            told = eval(code, names)
            # A remark begins with what is told, where that is short enough to be written.
            shown = re.match(r'(None|True|False|\d+|\[.*\]|"[^"]*")(?::|\Z)', remark)
            if shown:
                looked_at += 1
                with self.subTest(code=code):
                    self.assertEqual(told, eval(shown.group(1)))
        self.assertGreater(looked_at, 5)


if __name__ == "__main__":
    unittest.main()
