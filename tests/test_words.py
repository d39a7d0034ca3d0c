"""[20], [2]: integers and names."""

import unittest

from firingrules.words import is_integer, is_name
from tests.support import any_values


class WordsTest(unittest.TestCase):
    def test_integers(self):
        for thing in (0, 1, -1, 4, 10 ** 100, -10 ** 100):
            self.assertIs(is_integer(thing), True)

    def test_no_integers(self):
        for thing in (True, False, None, '1', '', b'1', (1,), [1], {1: 1}, {1}, 1j, int):
            self.assertIs(is_integer(thing), False)

    def test_names(self):
        for thing in ('a', 'z', 'az', 'abcdefgh', 'zzzzzzzz', 'true', 'none'):
            self.assertIs(is_name(thing), True)

    def test_every_letter_is_one_and_no_other_character(self):
        for code in range(32, 127):
            letter = chr(code)
            self.assertIs(is_name(letter), 'a' <= letter <= 'z')
        self.assertIs(is_name('\n'), False)

    def test_lengths(self):
        for many in range(20):
            self.assertIs(is_name('q' * many), 1 <= many <= 8)

    def test_one_wrong_character_at_any_place(self):
        for wrong in 'A0 _\n-Z9`{':
            for length in range(8):
                for at in range(length + 1):
                    text = 'a' * at + wrong + 'b' * (length - at)
                    self.assertIs(is_name(text), False, repr(text))

    def test_no_names(self):
        for thing in (None, True, 0, b'a', ('a',), ['a'], {'a': 1}, {'a'}, str):
            self.assertIs(is_name(thing), False)

    def test_any_value(self):
        for thing in any_values():
            self.assertIs(is_integer(thing), repr(thing).lstrip('-').isdigit() and not isinstance(thing, str))
            found = isinstance(thing, str) and 0 < len(thing) < 9 and not thing.strip('abcdefghijklmnopqrstuvwxyz')
            self.assertIs(is_name(thing), found and thing.isalpha() and thing.islower())
            self.assertIs(is_integer(thing), is_integer(thing))


if __name__ == '__main__':
    unittest.main()
