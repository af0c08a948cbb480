import doctest
import unittest


class Readme(unittest.TestCase):
    def test_its_examples(self):
        result = doctest.testfile("../README.md", optionflags=doctest.REPORT_NDIFF)
        self.assertGreater(result.attempted, 0)
        self.assertEqual(result.failed, 0)
