"""The examples of README.md."""

import doctest
import pathlib
import unittest

README = pathlib.Path(__file__).resolve().parent.parent / "README.md"


class ReadmeTest(unittest.TestCase):
    def test_the_examples_give_what_they_show(self):
        # The fences are left out, for doctest would take them as output.
        text = README.read_text(encoding="utf-8").replace("```", "")
        test = doctest.DocTestParser().get_doctest(text, {}, "README.md", None, 0)
        self.assertTrue(test.examples)
        results = doctest.DocTestRunner().run(test)
        self.assertEqual(results.failed, 0)


if __name__ == "__main__":
    unittest.main()
