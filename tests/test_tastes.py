import itertools
import unittest

from samples import (
    HIGHEST_AMOUNT, HIGHEST_PRICE, Rolls, book_of_costs, book_of_marks, has_ring, highest_book, mark_tables, octagon,
    plain_cost, plain_marks, row_of_eight, shuffled, some_marks,
)
from tastesbook.amounts import share_of
from tastesbook.tastes import taste_of, worth

MOST = 10 ** 60 - 1
SHARES = [None, (1, 1), (1, 2), (2, 3), (9, 10), (99, 100), (1, 10 ** 9), (MOST - 1, MOST), (1, MOST)]
EXPLAINED = (
    ((1, 2), (3, 1)),
    ((2, 1), (0, 2)),
    ((1, 1), (2, 4)),
)
# At each day's prices the other day's amounts cost half of the purse.
HALVES = book_of_costs([[2, 1], [1, 2]])


class TasteCase(unittest.TestCase):
    def assert_answered(self, book, share=None):
        told = taste_of(book) if share is None else taste_of(book, share)
        self.assertIs(type(told), tuple)
        for numbers in told[1:]:
            self.assertIs(type(numbers), list)
            for number in numbers:
                self.assertIs(type(number), int)
        if told[0] == "ring":
            self.assert_ring(book, (1, 1) if share is None else share, told)
        else:
            self.assert_taste(book, (1, 1) if share is None else share, told)
        self.assertEqual(taste_of(book, share), told)
        return told

    def assert_ring(self, book, share, told):
        self.assertEqual(len(told), 2)
        ring = told[1]
        self.assertGreaterEqual(len(ring), 2)
        self.assertEqual(len(set(ring)), len(ring))
        for day in ring:
            self.assertIn(day, range(len(book)))
        marks = plain_marks(book, share)
        steps = [marks[day][following] for day, following in zip(ring, ring[1:] + ring[:1])]
        self.assertGreaterEqual(min(steps), 1)
        self.assertEqual(max(steps), 2)

    def assert_taste(self, book, share, told):
        self.assertEqual(len(told), 3)
        self.assertEqual(told[0], "taste")
        worths, weights = told[1], told[2]
        self.assertEqual(len(worths), len(book))
        self.assertEqual(len(weights), len(book))
        for number in worths + weights:
            self.assertLess(abs(number), 10 ** 2000)
        top, bottom = share
        for day in range(len(book)):
            self.assertGreaterEqual(weights[day], 1)
            purse = plain_cost(book, day, day)
            for other in range(len(book)):
                gap = bottom * plain_cost(book, day, other) - top * purse
                self.assertLessEqual(worths[other], worths[day] + weights[day] * gap)

    def assert_kind(self, kind, book, share=None):
        told = self.assert_answered(book, share)
        self.assertEqual(told[0], kind)
        return told


class TasteOfTest(TasteCase):
    def test_one_day(self):
        for book in [(((1,), (1,)),), (EXPLAINED[0],), (((HIGHEST_PRICE,) * 6, (HIGHEST_AMOUNT,) * 6),)]:
            for share in SHARES:
                self.assert_kind("taste", book, share)

    def test_written_out(self):
        self.assert_kind("taste", EXPLAINED)
        self.assertEqual(sorted(self.assert_kind("ring", HALVES)[1]), [0, 1])

    def test_left_out_none_and_the_whole_are_the_same(self):
        for book in [EXPLAINED, HALVES, octagon((2,)), octagon(), row_of_eight((1,))]:
            self.assertEqual(taste_of(book), taste_of(book, (1, 1)))
            self.assertEqual(taste_of(book), taste_of(book, None))
            self.assertEqual(taste_of(book), taste_of(book, share=(1, 1)))

    def test_all_that_three_days_can_tell(self):
        for days in [1, 2, 3]:
            for marks in mark_tables(days):
                self.assert_kind("ring" if has_ring(marks) else "taste", book_of_marks(marks))

    def test_what_more_days_can_tell(self):
        rolls = Rolls(41)
        kinds = []
        for days in [4, 5, 6]:
            for sparse in [1, 2, 4, 6, 9]:
                for turn in range(25):
                    marks = some_marks(rolls, days, sparse)
                    kinds.append("ring" if has_ring(marks) else "taste")
                    self.assert_kind(kinds[-1], book_of_marks(marks))
        self.assertGreater(kinds.count("ring"), 50)
        self.assertGreater(kinds.count("taste"), 50)

    def test_without_a_better_step_there_is_no_ring(self):
        self.assert_kind("taste", octagon())
        self.assert_kind("taste", book_of_costs([[3] * 6] * 6))
        self.assert_kind("taste", book_of_costs([[4, 4], [4, 4]]))

    def test_one_better_step_makes_the_ring_of_all_eight_days(self):
        for better in range(8):
            told = self.assert_kind("ring", octagon((better,)))
            self.assertEqual(sorted(told[1]), list(range(8)))
            place = told[1].index(0)
            self.assertEqual(told[1][place:] + told[1][:place], list(range(8)))

    def test_a_row_of_better_steps(self):
        for days in range(1, 9):
            told = self.assert_kind("taste", row_of_eight(range(8))[:days])
            # Each day is better than the next one, so it must be worth more.
            self.assertEqual(told[1], sorted(told[1], reverse=True))
            self.assertEqual(len(set(told[1])), days)

    def test_far_below_the_purse_one_way_and_one_above_it_the_other(self):
        # So each weight must be some 10 ** 9 times the one above it.
        purse = HIGHEST_PRICE - 1
        costs = [[purse + 1 if other < day else purse if other == day else 1 for other in range(6)] for day in range(6)]
        told = self.assert_kind("taste", book_of_costs(costs))
        self.assertGreater(max(told[2]), 10 ** 40)
        self.assert_kind("taste", book_of_costs([row[::-1] for row in costs][::-1]))

    def test_one_less_and_one_more_than_the_purse(self):
        for cost, kind in [(6, "ring"), (7, "ring"), (8, "taste")]:
            self.assert_kind(kind, book_of_costs([[5, 4], [cost, 7]]))
        for cost, kind in [(6, "ring"), (7, "taste"), (8, "taste")]:
            self.assert_kind(kind, book_of_costs([[5, 5], [cost, 7]]))

    def test_equal_days(self):
        for day in [EXPLAINED[0], ((HIGHEST_PRICE,) * 6, (HIGHEST_AMOUNT,) * 6)]:
            for days in range(1, 9):
                for share in SHARES:
                    told = self.assert_kind("taste", (day,) * days, share)
                    if share in [None, (1, 1)]:
                        self.assertEqual(len(set(told[1])), 1)

    def test_equal_days_among_others(self):
        for book in [EXPLAINED, HALVES, octagon((3,))[:4], row_of_eight((0, 1, 2))[:4]]:
            kind = taste_of(book)[0]
            self.assert_kind(kind, book + book)
            self.assert_kind(kind, tuple([day for day in book for turn in range(2)]))

    def test_all_books_of_small_numbers(self):
        days = [((one, two), (three, four)) for one, two in [(1, 1), (1, 2), (2, 1)]
                for three, four in [(0, 1), (1, 0), (1, 1), (0, 2), (2, 0)]]
        for length in [1, 2]:
            for book in itertools.product(days, repeat=length):
                for share in [None, (1, 2), (2, 3)]:
                    self.assert_answered(book, share)
        for book in itertools.islice(itertools.product(days, repeat=3), 0, None, 4):
            self.assert_answered(book)

    def test_ordinary_books(self):
        rolls = Rolls(42)
        for days in range(1, 9):
            for wares in range(1, 7):
                for turn in range(3):
                    book = rolls.book(days, wares, 9, 9)
                    for share in SHARES:
                        self.assert_answered(book, share)

    def test_the_greatest_prices_and_amounts(self):
        rolls = Rolls(43)
        kinds = []
        for turn in range(60):
            for share in [None, (1, 2), (MOST - 1, MOST), (1, MOST)]:
                kinds.append(self.assert_answered(highest_book(rolls, 8), share)[0])
        self.assertGreater(kinds.count("ring"), 20)
        self.assertGreater(kinds.count("taste"), 20)

    def test_the_order_of_days_does_not_matter(self):
        rolls = Rolls(44)
        books = [EXPLAINED, HALVES, row_of_eight((1, 2)), octagon((5,)), octagon()]
        books += [rolls.book(5, 3, 9, 9) for turn in range(10)]
        for book in books:
            kind = taste_of(book)[0]
            for turn in range(10):
                self.assert_kind(kind, shuffled(rolls, book))

    def test_the_book_of_nine_days_and_longer_amounts(self):
        rolls = Rolls(45)
        for turn in range(10):
            book = rolls.book(9, 6, HIGHEST_PRICE, 10 ** 30)
            for share in SHARES:
                self.assert_answered(book, share)
        nine = tuple([((1000 - day, 1000 + day), (10 ** 30 - 3 * 10 ** 28 * day, 10 ** 28 * day)) for day in range(9)])
        told = self.assert_kind("taste", nine)
        self.assertEqual(told[1], sorted(told[1], reverse=True))
        self.assert_kind("taste", nine[::-1])


class CutTest(TasteCase):
    def test_just_the_cut_purse_a_little_less_and_a_little_more(self):
        for share, kind in [
            ((1, 1), "ring"), ((2, 3), "ring"), ((10 ** 59 + 1, 2 * 10 ** 59), "ring"),
            ((1, 2), "taste"), ((10 ** 59 - 1, 2 * 10 ** 59), "taste"), ((1, 3), "taste"), ((1, MOST), "taste"),
        ]:
            with self.subTest(share=share):
                self.assert_kind(kind, HALVES, share)

    def test_one_of_both_days_is_still_better_by_the_share(self):
        # Day 0's amounts cost just the cut purse, day 1's less than that.
        book = book_of_costs([[100, 30], [40, 100]])
        self.assert_kind("ring", book, (2, 5))
        self.assert_kind("taste", book, share_of(4 * 10 ** 50 - 1, 10 ** 51))
        self.assert_kind("taste", book, (3, 10))

    def test_a_cut_purse_does_not_part_a_day_from_itself(self):
        for share in SHARES:
            told = self.assert_kind("taste", (EXPLAINED[1],), share)
            self.assertEqual([len(told[1]), len(told[2])], [1, 1])

    def test_a_share_somewhat_above_the_whole(self):
        # The purse would pay for more than the day's own amounts, which still tell nothing better of themselves.
        self.assertEqual(taste_of((EXPLAINED[1],), (3, 2))[0], "taste")
        self.assertEqual(taste_of(book_of_costs([[2, 4], [4, 2]]), (3, 2))[0], "taste")
        self.assert_ring(book_of_costs([[2, 3], [2, 2]]), (3, 2), taste_of(book_of_costs([[2, 3], [2, 2]]), (3, 2)))

    def test_each_share_that_explains_leaves_none_below_unexplained(self):
        rolls = Rolls(51)
        for turn in range(40):
            book = rolls.book(rolls.between(2, 6), rolls.between(2, 4), 20, 9)
            kinds = []
            for top in range(1, 13):
                share = share_of(top, 12)
                kinds.append(self.assert_answered(book, share)[0])
                self.assertEqual(kinds[-1] == "ring", has_ring(plain_marks(book, share)))
            self.assertEqual(kinds, sorted(kinds, reverse=True))

    def test_cut_rings_of_eight(self):
        self.assert_kind("ring", octagon((0, 3)), (1, 1))
        self.assert_kind("taste", octagon((0, 3)), (MOST // 2, MOST // 2 + 1))
        for share in SHARES[2:]:
            self.assert_kind("taste", octagon(), share)


class WorthTest(TasteCase):
    def explained_books(self):
        rolls = Rolls(61)
        books = [EXPLAINED, (EXPLAINED[0],), octagon(), row_of_eight(), row_of_eight(range(8)), (EXPLAINED[2],) * 8]
        drawn = [rolls.book(days, wares, 9, 9) for days in range(1, 6) for wares in range(1, 7) for turn in range(3)]
        drawn += [highest_book(rolls, days) for days in range(1, 9) for turn in range(4)]
        books += [book for book in drawn if not has_ring(plain_marks(book))]
        self.assertGreater(len(books), 40)
        return books

    def by_book(self, book, amounts):
        kind, worths, weights = taste_of(book)
        told = worth(book, worths, weights, amounts)
        self.assertIs(type(told), int)
        return told

    def test_written_out(self):
        book = (((1, 2), (3, 1)), ((2, 1), (0, 2)))
        # Purses of 5 and 2, weights of 3 and 10, worths of 7 and -4.
        for amounts, told in [
            ((0, 0), min(7 - 3 * 5, -4 - 10 * 2)),
            ((3, 1), min(7, -4 + 10 * 5)),
            ((0, 2), min(7 + 3 * -1, -4)),
            ((1, 0), min(7 + 3 * -4, -4)),
            ((10, 10), min(7 + 3 * 25, -4 + 10 * 28)),
            ((0, 9), min(7 + 3 * 13, -4 + 10 * 7)),
            ((HIGHEST_AMOUNT, 0), 7 + 3 * (HIGHEST_AMOUNT - 5)),
        ]:
            with self.subTest(amounts=amounts):
                self.assertEqual(worth(book, [7, -4], [3, 10], amounts), told)

    def test_each_days_own_amounts(self):
        for book in self.explained_books():
            worths = taste_of(book)[1]
            for day in range(len(book)):
                self.assertEqual(self.by_book(book, book[day][1]), worths[day])

    def test_nothing_at_all(self):
        for book in self.explained_books():
            kind, worths, weights = taste_of(book)
            nothing = (0,) * len(book[0][0])
            days = range(len(book))
            least = min([worths[day] - weights[day] * plain_cost(book, day, day) for day in days])
            self.assertEqual(self.by_book(book, nothing), least)
            for day in days:
                self.assertLess(self.by_book(book, nothing), worths[day])

    def test_more_of_a_ware_is_never_worth_less(self):
        rolls = Rolls(62)
        for book in self.explained_books():
            wares = len(book[0][0])
            for most in [3, 12, HIGHEST_AMOUNT - 1]:
                amounts = [rolls.between(0, most) for ware in range(wares)]
                for ware in range(wares):
                    more = list(amounts)
                    more[ware] += 1
                    self.assertGreaterEqual(self.by_book(book, tuple(more)), self.by_book(book, tuple(amounts)))

    def test_nothing_that_a_purse_can_pay_is_worth_more(self):
        book = (((2, 3), (4, 1)), ((3, 2), (1, 4)), ((1, 1), (2, 2)))
        worths = self.assert_kind("taste", book)[1]
        for amounts in itertools.product(range(13), repeat=2):
            for day in range(3):
                if plain_cost(book + ((book[0][0], amounts),), day, 3) <= plain_cost(book, day, day):
                    self.assertLessEqual(self.by_book(book, amounts), worths[day])

    def test_halfway_between_two_amounts(self):
        rolls = Rolls(63)
        for book in self.explained_books():
            wares = len(book[0][0])
            for most in [4, HIGHEST_AMOUNT // 2]:
                one = [rolls.between(0, most) for ware in range(wares)]
                other = [amount % 2 + 2 * rolls.between(0, most // 2) for amount in one]
                half = [(first + second) // 2 for first, second in zip(one, other)]
                least = min(self.by_book(book, tuple(one)), self.by_book(book, tuple(other)))
                self.assertGreaterEqual(self.by_book(book, tuple(half)), least)

    def test_lists_that_are_handed_in_stay_as_they_were(self):
        worths, weights = [7, -4], [3, 10]
        first = worth(EXPLAINED[:2], worths, weights, (1, 1))
        self.assertEqual((worths, weights), ([7, -4], [3, 10]))
        self.assertEqual(worth(EXPLAINED[:2], worths, weights, (1, 1)), first)


class AskedAgainTest(unittest.TestCase):
    def test_what_is_told_may_be_changed(self):
        for book in [EXPLAINED, HALVES, octagon((4,)), row_of_eight(range(8))]:
            for share in SHARES:
                told = taste_of(book, share)
                kept = [list(numbers) for numbers in told[1:]]
                for numbers in told[1:]:
                    numbers[0] = 99
                    numbers.append(-7)
                self.assertEqual([list(numbers) for numbers in taste_of(book, share)[1:]], kept)

    def test_no_later_call_alters_what_was_told(self):
        first = taste_of(EXPLAINED)
        kept = [list(numbers) for numbers in first[1:]]
        for numbers in taste_of(EXPLAINED)[1:] + taste_of(HALVES)[1:]:
            numbers.clear()
        self.assertEqual(list(first[1:]), kept)

    def test_worths_and_weights_are_two_lists(self):
        for book in [EXPLAINED, (EXPLAINED[0],)]:
            told = taste_of(book)
            self.assertIsNot(told[1], told[2])


if __name__ == "__main__":
    unittest.main()
