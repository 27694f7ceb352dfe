import unittest
from fractions import Fraction
from math import gcd

from glassladder import shares
from glassladder.errors import ByNought, GlassError, NoShare
from glassladder.shares import NOUGHT, ONE, is_share, less, minus, over, plus, share, times, total
from tests.samples import anything_but, as_fraction, chance_of

GREAT = 10 ** 99 + 7
NUMBERS = (0, 1, -1, 2, -2, 3, 6, -6, 12, 60, 97, GREAT, -GREAT, GREAT - 1, 2 * 10 ** 99)


def all_shares():
    return [share(top, bottom) for top in NUMBERS for bottom in NUMBERS if bottom]


class Made(unittest.TestCase):
    def test_constants(self):
        self.assertEqual((NOUGHT, ONE), ((0, 1), (1, 1)))

    def test_of_one_number(self):
        for top in NUMBERS:
            self.assertEqual(share(top), (top, 1))

    def test_of_two_numbers_in_least_ones(self):
        self.assertEqual(share(6, 4), (3, 2))
        self.assertEqual(share(6, -4), (-3, 2))
        self.assertEqual(share(-6, -4), (3, 2))
        self.assertEqual(share(0, -7), (0, 1))
        self.assertEqual(share(bottom=8, top=2), (1, 4))
        for top in NUMBERS:
            for bottom in NUMBERS:
                if bottom:
                    come_to = share(top, bottom)
                    self.assertEqual(as_fraction(come_to), Fraction(top, bottom))
                    self.assertGreaterEqual(come_to[1], 1)
                    self.assertEqual(gcd(*come_to), 1)
                    self.assertEqual([type(part) for part in come_to], [int, int])

    def test_refused_of_anything(self):
        for thing in anything_but(0, 1, -1, 10 ** 99):
            for args in (thing,), (thing, 1), (thing, 0), (thing, None), (1, thing):
                with self.assertRaises(NoShare) as caught:
                    share(*args)
                self.assertIs(caught.exception.thing, thing)
                self.assertIsInstance(caught.exception, GlassError)

    def test_second_one_nought(self):
        for top in NUMBERS:
            with self.assertRaises(NoShare) as caught:
                share(top, 0)
            self.assertEqual(repr(caught.exception.thing), "0")

    def test_the_former_goes_first(self):
        for former, latter in ((None, 0), ("a", "b"), (True, False), ([], {})):
            with self.assertRaises(NoShare) as caught:
                share(former, latter)
            self.assertIs(caught.exception.thing, former)


class IsShare(unittest.TestCase):
    def test_shares(self):
        for one in all_shares() + [(0, 1), (5, 1), (-5, 3), (GREAT, GREAT - 1)]:
            self.assertIs(is_share(one), True)

    def test_no_shares(self):
        others = [(0, 2), (2, 2), (4, 6), (1, 0), (1, -1), (0, 0), (-3, -1), (GREAT * 2, 2), [1, 1], (1,), (1, 1, 1),
                  (True, 1), (1, True), (False, 1), ("1", 1), (1, "1"), ((1, 1), 1), (None, 1), (1, None), {0: 1, 1: 1}]
        for thing in others + anything_but():
            self.assertIs(is_share(thing), False, thing)


class Reckoned(unittest.TestCase):
    def test_by_fractions(self):
        some = all_shares()
        chance = chance_of(1)
        for _ in range(4000):
            one, other = chance.choice(some), chance.choice(some)
            former, latter = as_fraction(one), as_fraction(other)
            self.check(plus(one, other), former + latter)
            self.check(minus(one, other), former - latter)
            self.check(times(one, other), former * latter)
            self.assertIs(less(one, other), former < latter)
            if latter:
                self.check(over(one, other), former / latter)

    def check(self, come_to, fraction):
        self.assertEqual(come_to, (fraction.numerator, fraction.denominator))
        self.assertTrue(is_share(come_to))

    def test_small(self):
        self.assertEqual(plus((1, 2), (1, 3)), (5, 6))
        self.assertEqual(plus((1, 2), (1, 2)), (1, 1))
        self.assertEqual(minus((1, 2), (1, 2)), (0, 1))
        self.assertEqual(times((2, 3), (3, 2)), (1, 1))
        self.assertEqual(times((2, 3), (0, 1)), (0, 1))
        self.assertEqual(over((1, 2), (-3, 4)), (-2, 3))
        self.assertEqual(over((0, 1), (-3, 4)), (0, 1))

    def test_by_names(self):
        for deed in (plus, minus, times, over):
            self.assertEqual(deed(other=(1, 3), one=(1, 2)), deed((1, 2), (1, 3)))
        self.assertIs(less(other=(1, 3), one=(1, 2)), False)

    def test_less_is_strict(self):
        self.assertIs(less((1, 3), (1, 2)), True)
        self.assertIs(less((1, 2), (1, 2)), False)
        self.assertIs(less((-1, 2), (-1, 3)), True)
        self.assertIs(less((GREAT - 1, GREAT), (1, 1)), True)

    def test_over_nought(self):
        for one in (NOUGHT, ONE, (-7, 3)):
            with self.assertRaises(ByNought) as caught:
                over(one, NOUGHT)
            self.assertIsInstance(caught.exception, ZeroDivisionError)
            self.assertNotIsInstance(caught.exception, GlassError)

    def test_total(self):
        some = [(1, 2), (1, 3), (-1, 6), (4, 1)]
        before = list(some)
        self.assertEqual(total(some), (14, 3))
        self.assertEqual(total(some, start=(1, 3)), (5, 1))
        self.assertEqual(total([]), NOUGHT)
        self.assertEqual(total([], start=(2, 3)), (2, 3))
        self.assertEqual(total(some=[(1, 2), (-1, 2)]), (0, 1))
        self.assertEqual(some, before)

    def test_start_is_told_by_its_name_alone(self):
        with self.assertRaises(TypeError):
            shares.total([(1, 2)], (1, 2))


if __name__ == "__main__":
    unittest.main()
