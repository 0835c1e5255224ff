"""The examples of README.md."""

import doctest
import os
import unittest


class ReadmeTest(unittest.TestCase):
    def test_examples(self):
        path = os.path.join(os.path.dirname(os.path.dirname(os.path.abspath(__file__))), "README.md")
        with open(path, encoding="ascii") as file:
            # A fence ends what an example is to show, as an empty line does.
            text = file.read().replace("```", "")
        test = doctest.DocTestParser().get_doctest(text, {}, "README.md", path, 0)
        found = doctest.DocTestRunner(verbose=False).run(test)
        self.assertEqual(found.failed, 0)
        self.assertGreater(found.attempted, 40)


if __name__ == "__main__":
    unittest.main()
