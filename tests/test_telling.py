import unittest

from samples import (
    HIGHEST_AMOUNT, HIGHEST_PRICE, Rolls, book_of_costs, book_of_marks, closure, mark_tables, octagon, plain_marks,
    row_of_eight, some_marks,
)
from tastesbook.errors import NoDay
from tastesbook.telling import at_once, chain, reached, strict_chain

BOOK = (
    ((1, 2), (3, 1)),   # purse 5; the others cost 4 and 10
    ((2, 1), (0, 2)),   # purse 2; the others cost 7 and 8
    ((1, 1), (2, 4)),   # purse 6; the others cost 4 and 2
)


def books():
    rolls = Rolls(11)
    told = [BOOK, octagon(), octagon((3,)), octagon(range(8)), row_of_eight(), row_of_eight((0,)), row_of_eight((4, 6))]
    told += [book_of_marks(marks) for days in [1, 2, 3] for marks in mark_tables(days)]
    told += [book_of_marks(some_marks(rolls, days, sparse)) for days in [4, 5, 6] for sparse in [2, 4, 6] * 8]
    told += [rolls.book(days, wares, 9, 9) for days in range(1, 9) for wares in range(1, 7)]
    told += [rolls.book(8, 6, HIGHEST_PRICE, HIGHEST_AMOUNT) for turn in range(4)]
    return told


class AtOnceTest(unittest.TestCase):
    def assert_told(self, book, day, other, mark):
        told = at_once(book, day, other)
        self.assertIs(type(told), int)
        self.assertEqual(told, mark)

    def test_written_out(self):
        marks = [[1, 2, 0], [0, 1, 0], [2, 2, 1]]
        for day in range(3):
            for other in range(3):
                with self.subTest(day=day, other=other):
                    self.assert_told(BOOK, day, other, marks[day][other])

    def test_just_the_purse_one_less_and_one_more(self):
        for purse in [2, 3, 100, HIGHEST_PRICE - 1]:
            for wanted, mark in [(purse - 1, 2), (purse, 1), (purse + 1, 0)]:
                with self.subTest(purse=purse, wanted=wanted):
                    self.assert_told(book_of_costs([[purse, wanted], [1, 1]]), 0, 1, mark)
                    self.assert_told(book_of_costs([[1, 1], [wanted, purse]]), 1, 0, mark)

    def test_one_less_and_one_more_of_the_greatest_purses(self):
        # A float would take all of these for the purse itself.
        prices = (HIGHEST_PRICE, HIGHEST_PRICE, 1)
        own = (prices, (HIGHEST_AMOUNT, HIGHEST_AMOUNT - 1, 1))
        for amounts, mark in [
            ((HIGHEST_AMOUNT - 1, HIGHEST_AMOUNT, 0), 2),
            ((HIGHEST_AMOUNT - 1, HIGHEST_AMOUNT, 1), 1),
            ((HIGHEST_AMOUNT - 1, HIGHEST_AMOUNT, 2), 0),
        ]:
            self.assert_told((own, ((1, 1, 1), amounts)), 0, 1, mark)

    def test_the_prices_are_the_days_not_the_others(self):
        # Day 1 could pay for day 0's amounts at day 0's prices, but not at its own.
        book = (((1, 9), (5, 1)), ((9, 1), (1, 5)))
        self.assert_told(book, 0, 1, 0)
        self.assert_told(book, 1, 0, 0)

    def test_a_day_and_itself(self):
        for book in books():
            for day in range(len(book)):
                self.assert_told(book, day, day, 1)

    def test_equal_days(self):
        book = (BOOK[0],) * 8
        for day in range(8):
            for other in range(8):
                self.assert_told(book, day, other, 1)

    def test_each_two_days(self):
        for book in books():
            marks = plain_marks(book)
            for day in range(len(book)):
                for other in range(len(book)):
                    self.assert_told(book, day, other, marks[day][other])


class ChainCase(unittest.TestCase):
    def assert_steps(self, marks, told, day, other):
        self.assertIs(type(told), list)
        for member in told:
            self.assertIs(type(member), int)
        self.assertEqual(told[0], day)
        self.assertEqual(told[-1], other)
        for one, following in zip(told, told[1:]):
            self.assertGreaterEqual(marks[one][following], 1)


class ReachedTest(ChainCase):
    def test_written_out(self):
        self.assertEqual(reached(BOOK, 0), [0, 1])
        self.assertEqual(reached(BOOK, 1), [1])
        self.assertEqual(reached(BOOK, 2), [0, 1, 2])

    def test_rows_and_rings_of_eight(self):
        for day in range(8):
            self.assertEqual(reached(row_of_eight(), day), list(range(day, 8)))
            self.assertEqual(reached(octagon(), day), list(range(8)))

    def test_rising_with_the_day_itself_and_all_that_have_a_chain(self):
        for book in books():
            ways = closure(plain_marks(book))
            for day in range(len(book)):
                told = reached(book, day)
                self.assertIs(type(told), list)
                self.assertEqual(told, [other for other in range(len(book)) if ways[day][other] > 0])
                self.assertIn(day, told)


class ChainTest(ChainCase):
    def test_from_a_day_to_itself(self):
        for book in books():
            for day in range(len(book)):
                self.assertEqual(chain(book, day, day), [day])

    def test_the_one_chain_of_a_row(self):
        for day in range(8):
            for other in range(8):
                told = list(range(day, other + 1)) if day <= other else None
                self.assertEqual(chain(row_of_eight(), day, other), told)

    def test_the_one_chain_of_a_ring(self):
        for day in range(8):
            for steps in range(8):
                told = [(day + step) % 8 for step in range(steps + 1)]
                self.assertEqual(chain(octagon(), day, told[-1]), told)

    def test_each_two_days(self):
        for book in books():
            marks = plain_marks(book)
            ways = closure(marks)
            for day in range(len(book)):
                for other in range(len(book)):
                    told = chain(book, day, other)
                    if ways[day][other] == 0:
                        self.assertIsNone(told)
                    else:
                        self.assert_steps(marks, told, day, other)
                        self.assertEqual(len(set(told)), len(told))


class StrictChainTest(ChainCase):
    def test_written_out(self):
        self.assertEqual(strict_chain(BOOK, 0, 1), [0, 1])
        self.assertIsNone(strict_chain(BOOK, 0, 0))
        self.assertIsNone(strict_chain(BOOK, 1, 0))
        self.assertIsNone(strict_chain(BOOK, 1, 1))

    def test_none_where_no_step_is_better(self):
        for book in [row_of_eight(), octagon(), (BOOK[0],) * 8, (BOOK[0],)]:
            for day in range(len(book)):
                for other in range(len(book)):
                    self.assertIsNone(strict_chain(book, day, other))

    def test_the_one_better_step_of_a_row(self):
        for better in range(7):
            book = row_of_eight((better,))
            for day in range(8):
                for other in range(8):
                    told = list(range(day, other + 1)) if day <= better < other else None
                    self.assertEqual(strict_chain(book, day, other), told)

    def test_out_and_back_again(self):
        # Day 0 reaches day 1 at once, but the only better step lies beyond it.
        book = book_of_marks([[1, 1, 0], [0, 1, 1], [0, 2, 1]])
        self.assert_strict(book, plain_marks(book), 0, 1)
        self.assert_strict(book, plain_marks(book), 2, 2)
        self.assert_strict(book, plain_marks(book), 1, 1)
        self.assertIsNone(strict_chain(book, 0, 0))

    def test_from_a_day_to_itself_round_a_ring_of_eight(self):
        for better in range(8):
            book = octagon((better,))
            for day in range(8):
                for other in range(8):
                    self.assert_strict(book, plain_marks(book), day, other)

    def assert_strict(self, book, marks, day, other):
        told = strict_chain(book, day, other)
        self.assert_steps(marks, told, day, other)
        self.assertTrue(any([marks[one][following] == 2 for one, following in zip(told, told[1:])]))
        for member in told:
            self.assertLessEqual(told.count(member), 3)

    def test_each_two_days(self):
        for book in books():
            marks = plain_marks(book)
            ways = closure(marks)
            for day in range(len(book)):
                for other in range(len(book)):
                    if ways[day][other] == 2:
                        self.assert_strict(book, marks, day, other)
                    else:
                        self.assertIsNone(strict_chain(book, day, other))


class NoDayTest(unittest.TestCase):
    def test_numbers_of_no_day_in_either_place_and_in_both(self):
        for days in range(1, 9):
            book = octagon((2,))[:days]
            wrongs = [-1, -2, -days, -days - 1, days, days + 1, 2 * days, 8, 9, 10 ** 30, -10 ** 30, 10 ** 5000]
            for wrong in wrongs:
                with self.subTest(days=days, wrong=str(wrong) if abs(wrong) < 10 ** 40 else "long"):
                    with self.assertRaises(NoDay):
                        reached(book, wrong)
                    for function in [at_once, chain, strict_chain]:
                        for right in range(days):
                            with self.assertRaises(NoDay):
                                function(book, wrong, right)
                            with self.assertRaises(NoDay):
                                function(book, right, wrong)
                        for also_wrong in wrongs:
                            with self.assertRaises(NoDay):
                                function(book, wrong, also_wrong)

    def test_the_first_and_the_last_day_are_days(self):
        for days in range(1, 9):
            book = row_of_eight((0,))[:days]
            self.assertEqual(chain(book, 0, days - 1), list(range(days)))
            self.assertEqual(reached(book, days - 1), [days - 1])
            self.assertEqual(at_once(book, days - 1, days - 1), 1)
            self.assertEqual(strict_chain(book, 0, days - 1), list(range(days)) if days > 1 else None)


class AskedAgainTest(unittest.TestCase):
    def answers(self, book):
        days = range(len(book))
        told = [reached(book, day) for day in days]
        for function in [chain, strict_chain]:
            told += [function(book, day, other) for day in days for other in days]
        return told

    def test_what_is_told_may_be_changed(self):
        for book in [BOOK, octagon((1,)), row_of_eight((5,))]:
            first = self.answers(book)
            kept = [None if told is None else list(told) for told in first]
            for told in first:
                if told is not None:
                    told.append(99)
                    told[0] = -5
            self.assertEqual(self.answers(book), kept)

    def test_no_later_call_alters_what_was_told(self):
        book = octagon((1,))
        first = self.answers(book)
        kept = [None if told is None else list(told) for told in first]
        for told in self.answers(book) + self.answers(BOOK):
            if told is not None:
                told.clear()
        self.assertEqual(first, kept)

    def test_no_list_is_told_twice(self):
        book = octagon((1,))
        told = [answer for answer in self.answers(book) + self.answers(book) if answer is not None]
        self.assertEqual(len(set([id(answer) for answer in told])), len(told))

    def test_somewhat_beyond_the_bounds_nothing_is_refused(self):
        book = tuple([((10 ** 9 + 1, 10 ** 10), (10 ** 30 - day, day)) for day in range(9)])
        self.assertEqual(at_once(book, 0, 8), 0)
        self.assertEqual(at_once(book, 8, 0), 2)
        self.assertEqual(reached(book, 8), list(range(9)))
        self.assertEqual(chain(book, 0, 8), None)
        self.assertEqual(strict_chain(book, 8, 0)[0], 8)


if __name__ == "__main__":
    unittest.main()
