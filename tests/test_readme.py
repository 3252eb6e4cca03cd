import doctest
import unittest
from pathlib import Path

README = Path(__file__).resolve().parent.parent / 'README.md'


class TestReadme(unittest.TestCase):
    def test_the_examples(self):
        results = doctest.testfile(str(README), module_relative=False)
        self.assertEqual(results.failed, 0)
        self.assertGreater(results.attempted, 3)


if __name__ == '__main__':
    unittest.main()
