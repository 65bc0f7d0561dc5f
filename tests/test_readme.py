import doctest
import pathlib
import unittest

README = pathlib.Path(__file__).parent.parent / "README.md"


class ReadmeTest(unittest.TestCase):
    def test_what_it_shows_is_so(self):
        result = doctest.testfile(str(README), module_relative=False, optionflags=doctest.IGNORE_EXCEPTION_DETAIL)
        self.assertGreater(result.attempted, 10)
        self.assertEqual(result.failed, 0)
