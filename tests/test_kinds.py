"""[0.2] and [0.3]: what integers, numbers, bodies, marks, signs are."""

import unittest

from mailtide import kinds
from tests import wrong


class Kinds(unittest.TestCase):

    def test_wrong_objects(self):
        for value in wrong.objects():
            self.assertEqual(kinds.is_integer(value), type(value) is int)
            self.assertEqual(kinds.is_number(value), wrong.is_whole(value, 1))
            self.assertEqual(kinds.is_body(value), wrong.is_whole(value, 0))
            self.assertEqual(kinds.is_mark(value), wrong.is_whole(value, 0))
            self.assertEqual(kinds.is_sign(value), wrong.is_sign(value))
            self.assertEqual(kinds.is_signs(value), wrong.is_signs(value))
            self.assertEqual(kinds.is_numbers(value), wrong.is_numbers(value))

    def test_edges(self):
        self.assertEqual([kinds.is_number(value) for value in (-1, 0, 1, 10 ** 30)], [False, False, True, True])
        self.assertEqual([kinds.is_mark(value) for value in (-1, 0, 1, True)], [False, True, True, False])
        self.assertEqual([kinds.is_body(value) for value in (-1, 0, 1, False)], [False, True, True, False])
        self.assertEqual([kinds.is_sign(value) for value in ("", "a", "abcdefgh", "abcdefghi")], [False, True, True, False])
        six = ("a", "b", "c", "d", "e", "f")
        self.assertEqual([kinds.is_signs(value) for value in ((), six, (*six, "g"), ("a", "a"))], [True, True, False, False])

    def test_ascending(self):
        for numbers in ((), [], (3,), [1, 2], (1, 5, 10 ** 30)):
            self.assertTrue(kinds.is_ascending(numbers))
        for numbers in ((1, 1), [2, 1], (1, 3, 2), [1, 2, 3, 3]):
            self.assertFalse(kinds.is_ascending(numbers))


if __name__ == "__main__":
    unittest.main()
