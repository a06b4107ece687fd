import unittest
from fractions import Fraction
from itertools import product

from model import OTHER_KINDS
from shutroads.quotients import add_whole, is_at_most, is_fraction, quotient

WHOLE = (-7, -2, -1, 0, 1, 2, 6, 10 ** 30)


class Quotients(unittest.TestCase):
    def test_what_is_a_fraction(self):
        for value in ((0, 1), (1, 1), (-3, 4), (3, 4), (10 ** 30, 1), (1, 10 ** 30)):
            self.assertTrue(is_fraction(value), value)
        for value in (*OTHER_KINDS, 0, 1, (), (1,), (1, 2, 3), [1, 2], (1, 0), (0, 0), (3, -4), (-3, -4), (0, 2), (6, 8),
                      (-6, 8), (True, 1), (1, True), (False, 1), (None, 1), (1, None), ("1", 1), (1, "1"), ((1,), 1)):
            self.assertFalse(is_fraction(value), value)

    def test_a_quotient_is_a_fraction(self):
        for above, below in product(WHOLE, (1, 2, 3, 12, 10 ** 20)):
            found = quotient(above, below)
            self.assertTrue(is_fraction(found))
            self.assertEqual(Fraction(*found), Fraction(above, below))

    def test_order_and_sums(self):
        some = list(product(WHOLE, (1, 2, 4)))
        for left, right in product(some, some):
            self.assertIs(is_at_most(left, right), Fraction(*left) <= Fraction(*right))
        for left, whole in product(some, WHOLE):
            self.assertEqual(Fraction(*add_whole(left, whole)), Fraction(*left) + whole)


if __name__ == "__main__":
    unittest.main()
