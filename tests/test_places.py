"""The key of a place: the last two rows of point 25."""

import unittest

from oncedoor.places import key_of
from oncedoor.words import is_key

NAMES = ("a", "z", "ab", "hal", "hall", "halls", "zzzzz")
NUMBERS = (1, 2, 9, 10, 11, 12, 99, 100, 101, 1000, 12345, 99999, 100000, 999998, 999999)


class Places(unittest.TestCase):

    def test_the_document_s_own_case(self):
        self.assertEqual(key_of("hall", 12, 0), "hall12a")
        self.assertEqual(key_of("hall", 12, 1), "hall12b")

    def test_name_number_and_letter(self):
        for name in NAMES:
            for number in NUMBERS:
                self.assertEqual(key_of(name, number, 0), name + str(number) + "a")
                self.assertEqual(key_of(name, number, 1), name + str(number) + "b")

    def test_what_is_told_is_a_key(self):
        for name in NAMES:
            for number in NUMBERS:
                for place in (0, 1):
                    with self.subTest(name=name, number=number, place=place):
                        self.assertTrue(is_key(key_of(name, number, place)))

    def test_all_are_unlike(self):
        told = [key_of(name, number, place) for name in NAMES for number in NUMBERS for place in (0, 1)]
        self.assertEqual(len(set(told)), len(told))

    def test_the_same_again(self):
        self.assertEqual(key_of("halls", 999999, 1), key_of("halls", 999999, 1))
        self.assertEqual(key_of("halls", 999999, 1), "halls999999b")


if __name__ == "__main__":
    unittest.main()
