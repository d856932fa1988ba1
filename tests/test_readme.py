"""The examples of README.md."""

import doctest
import pathlib
import unittest

README = pathlib.Path(__file__).parent.parent / "README.md"


class ReadmeTest(unittest.TestCase):

    def test_examples(self):
        text = README.read_text(encoding="utf-8").replace("```\n", "\n")
        examples = doctest.DocTestParser().get_doctest(text, {}, "README.md", "README.md", 0)
        self.assertGreater(len(examples.examples), 20)
        said = []
        found = doctest.DocTestRunner(verbose=False).run(examples, out=said.append)
        self.assertEqual(found.failed, 0, "".join(said))


if __name__ == "__main__":
    unittest.main()
