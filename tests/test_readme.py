"""The samples in README.md tell what the program tells."""

import doctest
import os
import unittest

README = os.path.join(os.path.dirname(os.path.dirname(os.path.abspath(__file__))), "README.md")


class Samples(unittest.TestCase):
    def test_samples(self):
        failed, tried = doctest.testfile(README, module_relative=False)
        self.assertGreater(tried, 0)
        self.assertEqual(failed, 0)


if __name__ == "__main__":
    unittest.main()
