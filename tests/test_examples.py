"""The examples of the document."""

import builtins
import doctest
import unittest


class ExamplesTest(unittest.TestCase):
    def tearDown(self):
        # Running examples leaves the last result among the builtins.
        vars(builtins).pop('_', None)

    def test_they_come_out_as_they_stand_there(self):
        failed, tried = doctest.testfile('examples.txt')
        self.assertEqual(failed, 0)
        self.assertEqual(tried, 67)


if __name__ == '__main__':
    unittest.main()
