import itertools
import unittest

from samples import (
    HIGHEST_AMOUNT, HIGHEST_PRICE, Rolls, book_of_costs, book_of_marks, has_ring, highest_book, mark_tables, octagon,
    plain_marks, row_of_eight, shuffled, some_marks,
)
from tastesbook.errors import NoBook, NoDay
from tastesbook.leaving import fewest, two_hands, without
from tastesbook.tastes import taste_of

BOOK = (
    ((1, 2), (3, 1)),
    ((2, 1), (0, 2)),
    ((1, 1), (2, 4)),
    ((5, 7), (1, 1)),
)
NO_DAYS = [-1, -4, -5, 4, 5, 8, 10 ** 30, -10 ** 30]


def ringing(days):
    """Each of up to six days makes a ring with each other one."""
    return book_of_costs([[9 if day == other else 1 for other in range(days)] for day in range(days)])


def ringing_pairs(days, pairs):
    """A book of up to six days, of which just these pairs make rings."""
    marks = [[1 if day == other else 0 for other in range(days)] for day in range(days)]
    for one, other in pairs:
        marks[one][other] = 2
        marks[other][one] = 1
    return book_of_marks(marks)


def is_plainly_explained(book, days):
    return not has_ring(plain_marks(tuple([book[day] for day in days])))


def all_lists(many):
    return [list(days) for length in range(many + 1) for days in itertools.combinations(range(many), length)]


def others(book, days):
    return [day for day in range(len(book)) if day not in days]


class WithoutTest(unittest.TestCase):
    def test_the_other_days_in_their_order(self):
        for days, left in [
            ([0], (1, 2, 3)), ([3], (0, 1, 2)), ([1], (0, 2, 3)),
            ([0, 2], (1, 3)), ([1, 2, 3], (0,)), ([0, 1, 3], (2,)),
        ]:
            for order in itertools.permutations(days):
                told = without(BOOK, list(order))
                self.assertIs(type(told), tuple)
                self.assertEqual(told, tuple([BOOK[day] for day in left]))

    def test_no_day_named(self):
        self.assertEqual(without(BOOK, []), BOOK)
        self.assertEqual(without(BOOK[:1], []), BOOK[:1])
        self.assertIs(type(without(BOOK, [])), tuple)

    def test_all_lists_of_eight_days(self):
        book = row_of_eight()
        for days in all_lists(8)[:-1]:
            told = without(book, days[::-1])
            self.assertEqual(told, tuple([book[day] for day in range(8) if day not in days]))
            self.assertEqual(len(told), 8 - len(days))

    def test_equal_days_are_left_out_one_by_one(self):
        self.assertEqual(without((BOOK[0],) * 3, [1]), (BOOK[0],) * 2)
        self.assertEqual(without((BOOK[0], BOOK[1], BOOK[0]), [0]), (BOOK[1], BOOK[0]))

    def test_all_days_named(self):
        for many in range(1, 5):
            for order in itertools.permutations(range(many)):
                with self.assertRaises(NoBook):
                    without(BOOK[:many], list(order))
        with self.assertRaises(NoBook):
            without(octagon(), list(range(8)))

    def test_a_number_of_no_day(self):
        for wrong in NO_DAYS:
            for good in [[], [0], [3], [1, 2], [0, 1, 2], [0, 1, 2, 3]]:
                for place in range(len(good) + 1):
                    with self.subTest(wrong=wrong, good=good, place=place):
                        with self.assertRaises(NoDay):
                            without(BOOK, good[:place] + [wrong] + good[place:])

    def test_a_number_of_no_day_in_a_book_of_one_day(self):
        for days in [[1], [-1], [0, 1], [1, 0], [-1, 0], [0, -1]]:
            with self.assertRaises(NoDay):
                without(BOOK[:1], days)

    def test_a_day_that_was_left_out_is_no_day_of_what_is_left(self):
        left = without(BOOK, [1])
        self.assertEqual(without(left, [2]), BOOK[0:1] + BOOK[2:3])
        with self.assertRaises(NoDay):
            without(left, [3])

    def test_what_is_handed_in_stays_as_it_was(self):
        book = tuple([tuple(day) for day in BOOK])
        days = [3, 0]
        without(book, days)
        self.assertEqual(book, BOOK)
        self.assertEqual(days, [3, 0])
        days = [3, 0, 4]
        with self.assertRaises(NoDay):
            without(book, days)
        self.assertEqual(book, BOOK)
        self.assertEqual(days, [3, 0, 4])

    def test_by_its_arguments_names(self):
        self.assertEqual(without(book=BOOK, days=[2]), BOOK[:2] + BOOK[3:])


class FewestTest(unittest.TestCase):
    def assert_fewest(self, book):
        told = fewest(book)
        self.assertIs(type(told), list)
        for day in told:
            self.assertIs(type(day), int)
        enough = [days for days in all_lists(len(book))[:-1] if is_plainly_explained(book, others(book, days))]
        self.assertEqual(told, min(enough, key=lambda days: (len(days), days)))
        self.assertEqual(taste_of(without(book, told))[0], "taste")
        self.assertEqual(fewest(book), told)
        return told

    def test_none_where_the_book_is_explained(self):
        most = ((HIGHEST_PRICE,) * 6, (HIGHEST_AMOUNT,) * 6)
        for book in [BOOK[:1], BOOK[:3], (most,), (most,) * 8, octagon(), row_of_eight(range(8))]:
            self.assertEqual(self.assert_fewest(book), [])

    def test_the_first_of_several_as_long(self):
        self.assertEqual(self.assert_fewest(ringing(2)), [0])
        for better in range(8):
            self.assertEqual(self.assert_fewest(octagon((better,))), [0])
        self.assertEqual(self.assert_fewest(ringing_pairs(6, [(2, 5), (3, 4)])), [2, 3])
        self.assertEqual(self.assert_fewest(ringing_pairs(6, [(0, 5), (1, 4), (2, 3)])), [0, 1, 2])

    def test_a_shorter_list_goes_ahead_of_one_that_sorts_first(self):
        for middle in range(6):
            pairs = [(middle, other) for other in range(6) if other != middle]
            self.assertEqual(self.assert_fewest(ringing_pairs(6, pairs)), [middle])
        self.assertEqual(self.assert_fewest(ringing_pairs(6, [(0, 4), (1, 4), (2, 5), (3, 5)])), [4, 5])

    def test_a_longer_book_where_one_day_alone_can_stay(self):
        for days in range(1, 7):
            self.assertEqual(self.assert_fewest(ringing(days)), list(range(days - 1)))
        # Six days that ring with each other, and two of them twice.
        self.assertEqual(self.assert_fewest(ringing(6) + ringing(6)[:2]), [0, 2, 3, 4, 5, 6])
        self.assertEqual(self.assert_fewest(ringing(6) + ringing(6)[5:] * 2), [0, 1, 2, 3, 4])

    def test_all_that_three_days_can_tell(self):
        lengths = []
        for days in [1, 2, 3]:
            for marks in mark_tables(days):
                lengths.append(len(self.assert_fewest(book_of_marks(marks))))
        self.assertEqual(sorted(set(lengths)), [0, 1, 2])

    def test_what_more_days_can_tell(self):
        rolls = Rolls(111)
        lengths = []
        for days in [4, 5, 6]:
            for sparse in [1, 2, 4, 6]:
                for turn in range(6):
                    lengths.append(len(self.assert_fewest(book_of_marks(some_marks(rolls, days, sparse)))))
        self.assertEqual(sorted(set(lengths))[:4], [0, 1, 2, 3])

    def test_ordinary_and_the_greatest_books(self):
        rolls = Rolls(112)
        for days in range(1, 9):
            self.assert_fewest(rolls.book(days, 2, 9, 9))
            self.assert_fewest(rolls.book(days, 6, HIGHEST_PRICE, HIGHEST_AMOUNT))
            self.assert_fewest(highest_book(rolls, days))

    def test_how_many_in_another_order(self):
        rolls = Rolls(113)
        books = [octagon((2,)), ringing(5), ringing_pairs(6, [(0, 1), (2, 3)])]
        books += [rolls.book(rolls.between(2, 7), rolls.between(2, 4), 20, 9) for turn in range(10)]
        for book in books:
            told = len(fewest(book))
            for turn in range(4):
                self.assertEqual(len(self.assert_fewest(shuffled(rolls, book))), told)

    def test_what_is_told_may_be_changed(self):
        for book in [BOOK[:3], ringing(4), octagon((1,))]:
            first = fewest(book)
            kept = list(first)
            for told in [fewest(book), fewest(book)]:
                told.append(77)
                told[0] = 55
            self.assertEqual(first, kept)
            self.assertEqual(fewest(book), kept)

    def test_by_its_arguments_name(self):
        self.assertEqual(fewest(book=ringing(2)), [0])


class TwoHandsTest(unittest.TestCase):
    def assert_hands(self, book):
        told = two_hands(book)
        shared = [days for days in all_lists(len(book)) if 0 in days and is_plainly_explained(book, days)
                  and is_plainly_explained(book, others(book, days))]
        if told is None:
            self.assertEqual(shared, [])
        else:
            self.assertIs(type(told), list)
            for day in told:
                self.assertIs(type(day), int)
            self.assertIn(told, shared)
            rest = others(book, told)
            if rest:
                self.assertEqual(taste_of(without(book, told))[0], "taste")
                self.assertEqual(taste_of(without(book, rest))[0], "taste")
        self.assertEqual(two_hands(book), told)
        return told

    def test_one_day_and_a_book_that_is_explained(self):
        most = ((HIGHEST_PRICE,) * 6, (HIGHEST_AMOUNT,) * 6)
        self.assertEqual(self.assert_hands(BOOK[:1]), [0])
        for book in [BOOK[:3], (most,), (most,) * 8, octagon(), row_of_eight(range(8))]:
            self.assertIsNotNone(self.assert_hands(book))

    def test_two_days_that_no_one_taste_bears(self):
        self.assertEqual(self.assert_hands(ringing(2)), [0])

    def test_just_one_way_of_parting_the_days(self):
        for hand in [[0, 2, 4], [0, 5], [0, 1, 2], [0], [0, 3, 4, 5]]:
            pairs = [(one, other) for one in hand for other in range(6) if other not in hand]
            self.assertEqual(self.assert_hands(ringing_pairs(6, pairs)), hand)

    def test_three_days_that_ring_with_each_other(self):
        for days in range(3, 7):
            self.assertIsNone(self.assert_hands(ringing(days)))
        for three in itertools.combinations(range(6), 3):
            pairs = list(itertools.combinations(three, 2))
            self.assertIsNone(self.assert_hands(ringing_pairs(6, pairs)))
            for left in range(3):
                self.assertIsNotNone(self.assert_hands(ringing_pairs(6, pairs[:left] + pairs[left + 1:])))

    def test_an_odd_round_of_pairs_and_an_even_one(self):
        for many, shared in [(3, False), (4, True), (5, False), (6, True)]:
            told = self.assert_hands(ringing_pairs(many, [(day, (day + 1) % many) for day in range(many)]))
            self.assertEqual(told is not None, shared)

    def test_eight_days(self):
        for better in range(8):
            self.assertIsNotNone(self.assert_hands(octagon((better,))))
        self.assertIsNone(self.assert_hands(ringing(6) + ringing(6)[:2]))
        two = ringing_pairs(2, [(0, 1)])
        self.assertEqual(self.assert_hands(two * 4), [0, 2, 4, 6])
        self.assertEqual(self.assert_hands((two[0],) + (two[1],) * 7), [0])
        self.assertEqual(self.assert_hands((two[0],) * 7 + (two[1],)), list(range(7)))

    def test_all_that_three_days_can_tell(self):
        for days in [1, 2, 3]:
            for marks in mark_tables(days):
                self.assert_hands(book_of_marks(marks))

    def test_what_more_days_can_tell(self):
        rolls = Rolls(121)
        shared = []
        for days in [4, 5, 6]:
            for sparse in [1, 2, 4, 6]:
                for turn in range(6):
                    shared.append(self.assert_hands(book_of_marks(some_marks(rolls, days, sparse))) is not None)
        self.assertGreater(shared.count(True), 9)
        self.assertGreater(shared.count(False), 9)

    def test_ordinary_and_the_greatest_books(self):
        rolls = Rolls(122)
        for days in range(1, 9):
            self.assert_hands(rolls.book(days, 2, 9, 9))
            self.assert_hands(rolls.book(days, 6, HIGHEST_PRICE, HIGHEST_AMOUNT))
            self.assert_hands(highest_book(rolls, days))

    def test_in_another_order(self):
        rolls = Rolls(123)
        books = [octagon((2,)), ringing(3), ringing_pairs(6, [(0, 1), (2, 3)]), ringing_pairs(3, [(0, 1), (1, 2)]) * 2]
        books += [book_of_marks(some_marks(rolls, rolls.between(3, 6), 2)) for turn in range(12)]
        for book in books:
            shared = two_hands(book) is not None
            for turn in range(4):
                self.assertEqual(self.assert_hands(shuffled(rolls, book)) is not None, shared)

    def test_what_is_told_may_be_changed(self):
        for book in [BOOK[:1], BOOK[:3], ringing(2), octagon((1,))]:
            first = two_hands(book)
            kept = list(first)
            told = two_hands(book)
            told.append(77)
            told[0] = 55
            self.assertEqual(first, kept)
            self.assertEqual(two_hands(book), kept)

    def test_by_its_arguments_name(self):
        self.assertEqual(two_hands(book=ringing(2)), [0])


class BeyondTheBoundsTest(unittest.TestCase):
    def test_ten_days_are_not_refused(self):
        book = row_of_eight(range(8)) + row_of_eight(range(8))[:2]
        self.assertEqual(fewest(book), [])
        self.assertIn(0, two_hands(book))
        self.assertEqual(len(without(book, [9, 0])), 8)


if __name__ == "__main__":
    unittest.main()
