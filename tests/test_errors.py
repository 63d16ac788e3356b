"""The refusals, as the interface tells them."""

import unittest

from oneofall.errors import NoProgram, NoTree, OneError


class Errors(unittest.TestCase):

    def test_one_error_stands_under_value_error(self):
        self.assertEqual(OneError.__bases__, (ValueError,))

    def test_each_refusal_stands_straight_under_one_error(self):
        self.assertEqual(NoProgram.__bases__, (OneError,))
        self.assertEqual(NoTree.__bases__, (OneError,))

    def test_neither_refusal_stands_under_the_other(self):
        self.assertFalse(issubclass(NoProgram, NoTree))
        self.assertFalse(issubclass(NoTree, NoProgram))

    def test_each_object_keeps_its_own_at(self):
        for kind in (OneError, NoProgram, NoTree):
            one = kind(0)
            other = kind(7)
            self.assertEqual((one.at, other.at), (0, 7))


if __name__ == "__main__":
    unittest.main()
