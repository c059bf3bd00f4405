"""The example of README.md."""

import doctest
import os
import unittest


class ReadmeTest(unittest.TestCase):
    def test_example(self):
        path = os.path.join(os.path.dirname(os.path.dirname(os.path.abspath(__file__))), "README.md")
        found = doctest.testfile(path, module_relative=False)
        self.assertGreater(found.attempted, 5)
        self.assertEqual(found.failed, 0)


if __name__ == "__main__":
    unittest.main()
