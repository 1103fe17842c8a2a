import math
import unittest
from decimal import Decimal
from fractions import Fraction

from tastesbook.amounts import is_int, share_of

NO_INTS = [
    True, False, None, "", "1", "one", b"1", 1.0, 0.0, float("nan"), float("inf"), 1j,
    Decimal(1), Fraction(1), [], [1], (), (1,), {}, {1: 1}, {1}, frozenset(), range(1),
    object(), int, bool, len, iter([1]),
]


class IsIntTest(unittest.TestCase):
    def test_ints(self):
        for number in [0, 1, -1, 2, 37, 10 ** 9, 10 ** 18 + 1, -10 ** 60, 10 ** 60, 10 ** 5000, -10 ** 5000]:
            self.assertIs(is_int(number), True)

    def test_things_that_are_none(self):
        for thing in NO_INTS:
            with self.subTest(thing=thing):
                self.assertIs(is_int(thing), False)

    def test_answered_equally_again(self):
        for thing in [1, True, "1", None]:
            first = is_int(thing)
            is_int(0)
            is_int(False)
            self.assertIs(is_int(thing), first)


class ShareOfTest(unittest.TestCase):
    def assert_share(self, top, bottom):
        share = share_of(top, bottom)
        self.assertIs(type(share), tuple)
        self.assertEqual(len(share), 2)
        for number in share:
            self.assertIs(type(number), int)
            self.assertGreaterEqual(number, 1)
        self.assertEqual(math.gcd(share[0], share[1]), 1)
        self.assertEqual(share[0] * bottom, share[1] * top)

    def test_written_out(self):
        told = [
            (1, 1, (1, 1)), (2, 2, (1, 1)), (1, 2, (1, 2)), (2, 1, (2, 1)), (6, 4, (3, 2)), (4, 6, (2, 3)),
            (12, 4, (3, 1)), (4, 12, (1, 3)), (7, 5, (7, 5)), (9, 27, (1, 3)), (100, 75, (4, 3)),
        ]
        for top, bottom, share in told:
            with self.subTest(top=top, bottom=bottom):
                self.assertEqual(share_of(top, bottom), share)

    def test_all_small_ones(self):
        for top in range(1, 61):
            for bottom in range(1, 61):
                with self.subTest(top=top, bottom=bottom):
                    self.assert_share(top, bottom)

    def test_fifty_figures_and_more(self):
        one = 10 ** 50 + 151
        other = 3 ** 120
        for top, bottom in [(one, other), (other, one), (one, one), (one, 1), (1, one), (one, one + 1)]:
            self.assert_share(top, bottom)
        # Beyond a float's figures a quotient that is not exact would show.
        self.assertEqual(share_of(one * 6, one * 4), (3, 2))
        self.assertEqual(share_of(10 ** 60, 10 ** 59), (10, 1))
        self.assertEqual(share_of(one * 7 ** 80, one * 2 ** 200), (7 ** 80, 2 ** 200))
        self.assertEqual(share_of(other, other * one), (1, one))

    def test_the_slowest_pairs(self):
        # Neighbours of this row take the most divisions of all numbers of their length.
        one, other = 1, 1
        for step in range(6000):
            one, other = other, one + other
        self.assertEqual(share_of(one, other), (one, other))
        self.assertEqual(share_of(one * 30, other * 30), (one, other))

    def test_answered_equally_again(self):
        first = share_of(12, 18)
        share_of(5, 10)
        self.assertEqual(share_of(12, 18), first)
        self.assertEqual(share_of(12, 18), (2, 3))


if __name__ == "__main__":
    unittest.main()
