"""The examples in README.md."""

import doctest
import os
import unittest

README = os.path.join(os.path.dirname(os.path.dirname(os.path.abspath(__file__))), "README.md")


class Examples(unittest.TestCase):
    def test_the_examples_hold(self):
        with open(README, encoding="utf-8") as file:
            lines = [line for line in file.read().split("\n") if not line.startswith("```")]
        found = doctest.DocTestParser().get_doctest("\n".join(lines), {}, "README.md", README, 0)
        runner = doctest.DocTestRunner(verbose=False)
        self.assertEqual(runner.run(found).failed, 0)
        self.assertGreater(runner.tries, 0)


if __name__ == "__main__":
    unittest.main()
