"""The examples of README.md."""

import doctest
import pathlib
import unittest

README = pathlib.Path(__file__).parent.parent / "README.md"


class ReadmeTest(unittest.TestCase):
    def test_the_examples_hold(self):
        text = README.read_text(encoding="utf-8").replace("\n```\n", "\n\n")
        examples = doctest.DocTestParser().get_doctest(text, {}, "README.md", str(README), 0)
        self.assertGreater(len(examples.examples), 20)
        told = []
        results = doctest.DocTestRunner(verbose=False).run(examples, out=told.append)
        self.assertEqual(results.failed, 0, "".join(told))


if __name__ == "__main__":
    unittest.main()
