from pathlib import Path
import re
import unittest

ROOT = Path(__file__).resolve().parent.parent
README = (ROOT / "README.md").read_text()


class Readme(unittest.TestCase):
    def test_the_example_shows_what_the_program_returns(self):
        shown = 0
        names = {}
        for line in re.search(r"```python\n(.*?)```", README, re.S).group(1).splitlines():
            told = re.fullmatch(r"(.*\))\s+# (.*)", line)
            if told and not re.match(r"\w+ = ", line):
                self.assertTrue(told.group(2).replace('"', "'").startswith(repr(eval(told.group(1), names))), line)
                shown += 1
            else:
                exec(line, names)
        self.assertGreater(shown, 5)


if __name__ == "__main__":
    unittest.main()
