import itertools
import math
import unittest
from fractions import Fraction

from samples import (
    HIGHEST_AMOUNT, HIGHEST_PRICE, Rolls, book_of_costs, has_ring, highest_book, octagon, plain_cost, plain_marks,
    row_of_eight, shuffled,
)
from tastesbook.cuts import cut
from tastesbook.tastes import taste_of

WHOLE = ((1, 1), True)
# So fine that no cost of a book lies between a share and the ones beside it.
FINE = 10 ** 32


def book_of_rings(rings):
    """A book of up to six days: for each ring what its days' next ones cost of a purse of 60; all else is dearer."""
    days = sum([len(ring) for ring in rings])
    costs = [[60 if day == other else 100 for other in range(days)] for day in range(days)]
    first = 0
    for ring in rings:
        for place, cost in enumerate(ring):
            costs[first + place][first + (place + 1) % len(ring)] = cost
        first += len(ring)
    return book_of_costs(costs)


def cut_by_all_rings(book):
    """Found ring by ring: it lasts while the share pays for its dearest step, and by just that share only where a
    step is cheaper."""
    told = (Fraction(1), True)
    for length in range(2, len(book) + 1):
        for ring in itertools.permutations(range(len(book)), length):
            steps = [Fraction(plain_cost(book, day, following), plain_cost(book, day, day))
                     for day, following in zip(ring, ring[1:] + ring[:1])]
            told = min(told, (max(steps), min(steps) == max(steps)))
    return ((told[0].numerator, told[0].denominator), told[1])


class CutCase(unittest.TestCase):
    def assert_told(self, book):
        told = cut(book)
        self.assertIs(type(told), tuple)
        self.assertEqual(len(told), 2)
        share, enough = told
        self.assertIs(type(share), tuple)
        self.assertEqual(len(share), 2)
        for number in share:
            self.assertIs(type(number), int)
            self.assertGreaterEqual(number, 1)
        self.assertEqual(math.gcd(*share), 1)
        self.assertLessEqual(share[0], share[1])
        self.assertIs(type(enough), bool)
        self.assertEqual(cut(book), told)
        return told

    def explained_by(self, book, share):
        explained = taste_of(book, (share.numerator, share.denominator))[0] == "taste"
        marks = plain_marks(book, (share.numerator, share.denominator))
        self.assertEqual(explained, not has_ring(marks))
        return explained

    def assert_cut(self, book):
        told = self.assert_told(book)
        share = Fraction(*told[0])
        little = Fraction(1, FINE * told[0][1])
        self.assertIs(self.explained_by(book, share), told[1])
        for below in [share - little, share * Fraction(999, 1000), share / 2, Fraction(1, 10 ** 59)]:
            self.assertTrue(self.explained_by(book, below))
        if share < 1:
            for above in [share + little, (share + 1) / 2, Fraction(1)]:
                self.assertFalse(self.explained_by(book, above))
        self.assertEqual(told == WHOLE, taste_of(book)[0] == "taste")
        return told


class ExplainedTest(CutCase):
    def test_one_day(self):
        for day in [((1,), (1,)), ((2, 3), (4, 5)), ((HIGHEST_PRICE,) * 6, (HIGHEST_AMOUNT,) * 6)]:
            self.assertEqual(self.assert_cut((day,)), WHOLE)

    def test_equal_days(self):
        for day in [((1,), (1,)), ((2, 3), (4, 5)), ((HIGHEST_PRICE,) * 6, (HIGHEST_AMOUNT,) * 6)]:
            for days in range(2, 9):
                self.assertEqual(self.assert_cut((day,) * days), WHOLE)

    def test_all_costs_equal_to_the_purses(self):
        self.assertEqual(self.assert_cut(octagon()), WHOLE)
        self.assertEqual(self.assert_cut(book_of_rings([[60, 60, 60], [60, 60]])), WHOLE)

    def test_better_steps_without_a_ring(self):
        self.assertEqual(self.assert_cut(row_of_eight(range(8))), WHOLE)
        self.assertEqual(self.assert_cut(book_of_costs([[60, 1, 1], [61, 60, 1], [61, 61, 60]])), WHOLE)

    def test_a_step_dearer_than_the_purse_by_one_alone(self):
        self.assertEqual(self.assert_cut(book_of_rings([[1, 61]])), WHOLE)
        self.assertEqual(self.assert_cut(book_of_rings([[1, 1, 1, 61]])), WHOLE)


class OneRingTest(CutCase):
    def test_all_steps_alike(self):
        for cost, share in [(59, (59, 60)), (30, (1, 2)), (45, (3, 4)), (1, (1, 60)), (20, (1, 3))]:
            for length in range(2, 7):
                self.assertEqual(self.assert_cut(book_of_rings([[cost] * length])), (share, True))

    def test_the_dearest_step_counts(self):
        for ring, share in [
            ([20, 30], (1, 2)), ([30, 20], (1, 2)), ([1, 59], (59, 60)), ([29, 30], (1, 2)),
            ([40, 20, 10], (2, 3)), ([20, 20, 40], (2, 3)), ([40, 40, 20], (2, 3)),
            ([10, 20, 30, 40, 50, 55], (11, 12)), ([50, 50, 50, 50, 50, 49], (5, 6)),
        ]:
            self.assertEqual(self.assert_cut(book_of_rings([ring])), (share, False))

    def test_just_the_purse_and_one_step_cheaper(self):
        for length in range(2, 7):
            for place in range(length):
                ring = [60] * length
                ring[place] = 59
                self.assertEqual(self.assert_cut(book_of_rings([ring])), ((1, 1), False))
        for better in range(8):
            self.assertEqual(self.assert_cut(octagon((better,))), ((1, 1), False))

    def test_just_the_purse_once_and_all_else_cheaper(self):
        self.assertEqual(self.assert_cut(book_of_rings([[1, 60]])), ((1, 1), False))
        self.assertEqual(self.assert_cut(book_of_rings([[60, 1, 1, 1]])), ((1, 1), False))
        self.assertEqual(self.assert_cut(octagon(range(1, 8))), ((1, 1), False))

    def test_each_purse_has_its_own_share(self):
        # 6 of 9 and 10 of 15 are the same share, 7 of 9 is a greater one.
        self.assertEqual(self.assert_cut(book_of_costs([[9, 6], [10, 15]])), ((2, 3), True))
        self.assertEqual(self.assert_cut(book_of_costs([[9, 7], [10, 15]])), ((7, 9), False))
        self.assertEqual(self.assert_cut(book_of_costs([[9, 6], [9, 15]])), ((2, 3), False))


class SeveralRingsTest(CutCase):
    def test_the_ring_that_lasts_longest_counts(self):
        for rings, told in [
            ([[30, 30], [40, 40]], ((1, 2), True)),
            ([[40, 40], [30, 30]], ((1, 2), True)),
            ([[30, 20], [40, 40]], ((1, 2), False)),
            ([[30, 30], [40, 1]], ((1, 2), True)),
            ([[50, 1], [45, 45, 45]], ((3, 4), True)),
            ([[45, 44, 45], [45, 46]], ((3, 4), False)),
            ([[60, 59], [50, 50]], ((5, 6), True)),
            ([[60, 60], [59, 60]], ((1, 1), False)),
        ]:
            self.assertEqual(self.assert_cut(book_of_rings(rings)), told)

    def test_of_two_that_last_as_long_one_may_break_the_share_itself(self):
        for rings in [[[30, 30], [30, 20]], [[30, 20], [30, 30]], [[30, 30], [30, 30, 29]], [[30, 30, 30], [1, 30]]]:
            self.assertEqual(self.assert_cut(book_of_rings(rings)), ((1, 2), False))
        for rings in [[[30, 30], [30, 30]], [[30, 30, 30], [30, 30]]]:
            self.assertEqual(self.assert_cut(book_of_rings(rings)), ((1, 2), True))

    def test_rings_that_have_a_day_in_common(self):
        # Round by days 0 and 1 with 40 and 30, or by all three with 40, 20 and 20.
        self.assertEqual(self.assert_cut(book_of_costs([[60, 40, 99], [30, 60, 20], [20, 99, 60]])), ((2, 3), False))
        self.assertEqual(self.assert_cut(book_of_costs([[60, 20, 99], [30, 60, 20], [20, 99, 60]])), ((1, 3), True))
        self.assertEqual(self.assert_cut(book_of_costs([[60, 20, 99], [20, 60, 20], [19, 99, 60]])), ((1, 3), False))

    def test_each_day_rings_with_each(self):
        costs = [[60 if day == other else 10 + day for other in range(6)] for day in range(6)]
        self.assertEqual(self.assert_cut(book_of_costs(costs)), ((11, 60), False))
        costs = [[60 if day == other else 10 + max(day, other) for other in range(6)] for day in range(6)]
        self.assertEqual(self.assert_cut(book_of_costs(costs)), ((11, 60), True))


class BooksTest(CutCase):
    def test_small_books_against_all_rings(self):
        rolls = Rolls(101)
        kinds = []
        for turn in range(300):
            days = rolls.between(1, 5)
            most = rolls.between(4, 12)
            costs = [[rolls.between(3, most) for other in range(days)] for day in range(days)]
            for day in range(days):
                costs[day][day] = rolls.between(4, 6)
            book = book_of_costs(costs)
            told = self.assert_cut(book)
            self.assertEqual(told, cut_by_all_rings(book))
            kinds.append((told == WHOLE, told[1]))
        for kind in [(True, True), (False, True), (False, False)]:
            self.assertGreater(kinds.count(kind), 12)

    def test_ordinary_books(self):
        rolls = Rolls(102)
        broken = 0
        for days in range(1, 9):
            for wares in range(1, 7):
                for price, amount in [(2, 2), (9, 9), (HIGHEST_PRICE, HIGHEST_AMOUNT)]:
                    broken += self.assert_cut(rolls.book(days, wares, price, amount)) != WHOLE
        self.assertGreater(broken, 40)

    def test_the_greatest_prices_and_amounts(self):
        rolls = Rolls(103)
        broken = 0
        for days in range(2, 9):
            for turn in range(5):
                broken += self.assert_cut(highest_book(rolls, days)) != WHOLE
        self.assertGreater(broken, 10)

    def test_to_one_piece_of_the_greatest_amounts(self):
        most, price = HIGHEST_AMOUNT, HIGHEST_PRICE
        self.assertEqual(self.assert_cut((((price, price), (most, most)), ((price, price), (most, most - 1)))), WHOLE)
        # Each day's amounts come to one piece less at the other's prices.
        book = (((price, price - 1), (most, most - 1)), ((price - 1, price), (most - 1, most)))
        purse = price * most + (price - 1) * (most - 1)
        share = Fraction(price * (most - 1) + (price - 1) * most, purse)
        self.assertEqual(self.assert_cut(book), ((share.numerator, share.denominator), True))
        self.assertEqual(purse - share * purse, 1)

    def test_the_order_of_days_does_not_matter(self):
        rolls = Rolls(104)
        books = [octagon(), octagon((2,)), row_of_eight((1, 2)), book_of_rings([[30, 30], [30, 20]])]
        books += [rolls.book(rolls.between(2, 8), rolls.between(2, 4), 9, 9) for turn in range(30)]
        for book in books:
            told = self.assert_told(book)
            for turn in range(5):
                self.assertEqual(self.assert_told(shuffled(rolls, book)), told)

    def test_so_many_times_the_prices_alter_nothing(self):
        rolls = Rolls(105)
        for turn in range(20):
            book = rolls.book(5, 3, 9, 9)
            dearer = []
            for prices, amounts in book:
                times = rolls.between(1, 10 ** 6)
                dearer.append((tuple([times * price for price in prices]), amounts))
            self.assertEqual(cut(tuple(dearer)), cut(book))

    def test_by_its_arguments_name(self):
        self.assertEqual(cut(book=octagon((2,))), ((1, 1), False))

    def test_somewhat_beyond_the_bounds_nothing_is_refused(self):
        rolls = Rolls(106)
        for turn in range(5):
            self.assert_told(rolls.book(10, 8, 10 ** 12, 10 ** 30))


if __name__ == "__main__":
    unittest.main()
