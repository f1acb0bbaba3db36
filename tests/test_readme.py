import pathlib
import unittest

from tests.helper import assert_examples_hold


class ReadmeTest(unittest.TestCase):
    def test_examples(self):
        readme = pathlib.Path(__file__).resolve().parent.parent / "README.md"
        assert_examples_hold(self, readme.read_text(encoding="utf-8"))


if __name__ == "__main__":
    unittest.main()
