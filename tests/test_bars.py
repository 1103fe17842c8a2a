import itertools
import math
import unittest
from fractions import Fraction

from samples import (
    HIGHEST_AMOUNT, HIGHEST_PRICE, Rolls, book_of_costs, has_ring, highest_book, mark_tables, octagon, plain_cost,
    plain_marks, row_of_eight, shuffled, some_marks,
)
from tastesbook.bars import bars
from tastesbook.days import check
from tastesbook.errors import NoBook, NoDay, NoTaste, TasteError
from tastesbook.tastes import taste_of

ONE_DAY = (((1, 2), (2, 1)),)   # purse 4
# So fine that nothing that a book can cost lies between a bar's end and the shares beside it.
FINE = 10 ** 60


def longer_book(book, prices, shape, share):
    """The book with the share times the shape behind it, all amounts multiplied by the share's bottom."""
    days = [(day[0], tuple([share.denominator * amount for amount in day[1]])) for day in book]
    days.append((prices, tuple([share.numerator * amount for amount in shape])))
    return tuple(days)


def turning_shares(book, prices, shape):
    """Where a day's purse just pays for the new day, or the new day's purse just pays for a day."""
    both = book + ((prices, shape),)
    new = len(book)
    told = []
    for day in range(new):
        told.append(Fraction(plain_cost(both, day, day), plain_cost(both, day, new)))
        told.append(Fraction(plain_cost(both, new, day), plain_cost(both, new, new)))
    return sorted(set(told))


def shares_to_try(turning):
    """The turning ones, those halfway between neighbours, some below all and some beyond all."""
    between = [(one + other) / 2 for one, other in zip(turning, turning[1:])]
    return turning + between + [turning[0] / 2, turning[0] / FINE, turning[-1] * 2, turning[-1] * FINE]


def breaks(book, prices, shape, share):
    return has_ring(plain_marks(longer_book(book, prices, shape, share)))


def lies_in(told, share):
    return any([Fraction(*low) <= share <= Fraction(*high) for low, high in told])


def book_of_bounds(marks, highs):
    """A book of up to five days that tell what marks says; behind them comes so much of a ware of its own, for
    which each day's purse pays up to its number in highs, 1 to 6."""
    book = []
    for day, row in enumerate(marks):
        costs = [60 * (7 - mark) for mark in row]
        amounts = [int(ware == day) for ware in range(len(marks) + 1)]
        book.append((tuple(costs + [360 // highs[day]]), tuple(amounts)))
    return tuple(book)


def bars_by_halves(book, prices, shape):
    """For turning shares that are whole numbers from 1 to 6: tried at each whole and each half."""
    told = []
    for half in range(1, 14):
        if breaks(book, prices, shape, Fraction(half, 2)):
            if told and told[-1][1] == half - 1:
                told[-1][1] = half
            else:
                told.append([half, half])
    return [((low // 2, 1), (high // 2, 1)) for low, high in told]


def explained_book(rolls, days, wares, price, amount):
    """Days are put behind it, one by one, where no ring comes of it."""
    book = ()
    while len(book) < days:
        longer = book + rolls.book(1, wares, price, amount)
        if not has_ring(plain_marks(longer)):
            book = longer
    return book


def days_of_one_taste(rolls, days, wares, most):
    """Each ware gets the same part of each purse, so that prices may differ as they like and no ring comes of it."""
    purse = math.lcm(*range(1, most + 1))
    book = []
    for day in range(days):
        prices = tuple([rolls.between(1, most) for ware in range(wares)])
        times = rolls.between(1, 20)
        book.append((prices, tuple([times * purse // price for price in prices])))
    return tuple(book)


def highest_explained_book(rolls, days):
    book = ()
    while len(book) < days:
        longer = book + highest_book(rolls, 1)
        if not has_ring(plain_marks(longer)):
            book = longer
    return book


class BarsCase(unittest.TestCase):
    def assert_form(self, told):
        self.assertIs(type(told), list)
        for bar in told:
            self.assertIs(type(bar), tuple)
            self.assertEqual(len(bar), 2)
            for share in bar:
                self.assertIs(type(share), tuple)
                self.assertEqual(len(share), 2)
                for number in share:
                    self.assertIs(type(number), int)
                    self.assertGreaterEqual(number, 1)
                self.assertEqual(math.gcd(*share), 1)
            self.assertLessEqual(Fraction(*bar[0]), Fraction(*bar[1]))
        for bar, following in zip(told, told[1:]):
            self.assertLess(Fraction(*bar[1]), Fraction(*following[0]))

    def assert_tasted(self, book, prices, shape, share, explained):
        longer = longer_book(book, prices, shape, share)
        self.assertEqual(taste_of(longer)[0], "taste" if explained else "ring")
        self.assertEqual(has_ring(plain_marks(longer)), not explained)

    def assert_ends(self, book, prices, shape, bar):
        low, high = Fraction(*bar[0]), Fraction(*bar[1])
        for within in [low, (low + high) / 2, high, low + (high - low) / FINE, high - (high - low) / FINE]:
            self.assert_tasted(book, prices, shape, within, False)
        for beside in [low - low / FINE, high + high / FINE]:
            self.assert_tasted(book, prices, shape, beside, True)

    def assert_bars(self, book, prices, shape):
        told = bars(book, prices, shape)
        self.assert_form(told)
        turning = turning_shares(book, prices, shape)
        for share in shares_to_try(turning):
            self.assertEqual(lies_in(told, share), breaks(book, prices, shape, share))
        for bar in told:
            self.assert_ends(book, prices, shape, bar)
        for share in [turning[0] / 2, turning[0], turning[-1], turning[-1] * 2]:
            self.assert_tasted(book, prices, shape, share, not lies_in(told, share))
        self.assertEqual(bars(book, prices, shape), told)
        return told


class OneDayTest(BarsCase):
    def test_one_bar(self):
        # From 5 of 2 on the new purse pays for (2, 1); up to 4 the old one pays for the new amounts.
        self.assertEqual(self.assert_bars(ONE_DAY, (2, 1), (1, 0)), [((5, 2), (4, 1))])
        self.assertEqual(self.assert_bars(ONE_DAY, (9, 2), (7, 0)), [((20, 63), (4, 7))])

    def test_none(self):
        self.assertEqual(self.assert_bars(ONE_DAY, (2, 1), (1, 2)), [])
        self.assertEqual(self.assert_bars(ONE_DAY, (1, 2), (0, 1)), [])

    def test_one_ware_breaks_nothing(self):
        for price, amount in [(1, 1), (3, 7), (HIGHEST_PRICE, HIGHEST_AMOUNT)]:
            for new_price, shape in [(1, 1), (5, 3), (HIGHEST_PRICE, HIGHEST_AMOUNT)]:
                self.assertEqual(self.assert_bars((((price,), (amount,)),), (new_price,), (shape,)), [])

    def test_both_bounds_at_one_share_are_no_bar(self):
        # At the day's own prices, as much as it bought costs as much the one way as the other.
        for shape in [(2, 1), (4, 2), (1, 1), (0, 3), (7, 0)]:
            self.assertEqual(self.assert_bars(ONE_DAY, (1, 2), shape), [])
            self.assertEqual(self.assert_bars(ONE_DAY, (100, 200), shape), [])
        # So many times what it bought is as much the one way as the other at all prices.
        for prices in [(1, 1), (5, 1), (1, 9)]:
            self.assertEqual(self.assert_bars(ONE_DAY, prices, (6, 3)), [])

    def test_all_small_prices_and_shapes(self):
        lengths = []
        for prices in itertools.product([1, 2, 5], repeat=2):
            for shape in [(0, 1), (1, 0), (1, 1), (3, 1), (1, 3), (2, 1)]:
                lengths.append(len(self.assert_bars(ONE_DAY, prices, shape)))
        self.assertEqual(sorted(set(lengths)), [0, 1])


class ShapesTest(BarsCase):
    def test_several_bars(self):
        costs = [[1 if day == other else 2 for other in range(5)] for day in range(5)]
        book = []
        for day, (prices, amounts) in enumerate(book_of_costs(costs)):
            book.append((prices + (day + 1,), amounts + (0,)))
        # Each day stands by itself: up to 1, 1/2, 1/3, 1/4 and 1/5 of the shape its purse pays for it.
        shape = (0, 0, 0, 0, 0, 1)
        told = self.assert_bars(tuple(book), (900, 450, 300, 240, 190, 1000), shape)
        self.assertEqual(told, [
            ((19, 100), (1, 5)), ((6, 25), (1, 4)), ((3, 10), (1, 3)), ((9, 20), (1, 2)), ((9, 10), (1, 1)),
        ])
        # From 1/5 on the purse pays for day 4: its bounds are one.
        told = self.assert_bars(tuple(book), (900, 450, 300, 260, 200, 1000), shape)
        self.assertEqual(told, [((3, 10), (1, 3)), ((9, 20), (1, 2)), ((9, 10), (1, 1))])
        # Bars that touch are one, and so are those that lie one over another.
        told = self.assert_bars(tuple(book), (500, 450, 300, 250, 190, 1000), shape)
        self.assertEqual(told, [((19, 100), (1, 5)), ((3, 10), (1, 3)), ((9, 20), (1, 1))])
        told = self.assert_bars(tuple(book), (400, 100, 300, 150, 190, 1000), shape)
        self.assertEqual(told, [((1, 10), (1, 1))])

    def test_a_bar_of_one_share_alone(self):
        # Day 0 tells itself better than day 1: the new day is as good as 0 and 1 as good as the new one, at 3 alone.
        book = book_of_bounds([[1, 2], [0, 1]], [1, 3])
        self.assertEqual(self.assert_bars(book, (3, 9, 1), (0, 0, 1)), [((3, 1), (3, 1))])
        # Where day 0 tells itself as good and no more, nothing breaks.
        book = book_of_bounds([[1, 1], [0, 1]], [1, 3])
        self.assertEqual(self.assert_bars(book, (3, 9, 1), (0, 0, 1)), [])
        # By two steps, the first better, or the second.
        for marks in [[[1, 2, 0], [0, 1, 1], [0, 0, 1]], [[1, 1, 0], [0, 1, 2], [0, 0, 1]]]:
            book = book_of_bounds(marks, [1, 1, 4])
            self.assertEqual(self.assert_bars(book, (4, 9, 9, 1), (0, 0, 0, 1)), [((4, 1), (4, 1))])

    def test_a_bar_of_one_share_melts_into_one_that_it_touches(self):
        # Day 2 stands by itself, with a bar from 3 to 5, or from 2 to 3.
        marks = [[1, 2, 0], [0, 1, 0], [0, 0, 1]]
        book = book_of_bounds(marks, [1, 3, 5])
        self.assertEqual(self.assert_bars(book, (3, 9, 3, 1), (0, 0, 0, 1)), [((3, 1), (5, 1))])
        self.assertEqual(self.assert_bars(book, (3, 9, 4, 1), (0, 0, 0, 1)), [((3, 1), (3, 1)), ((4, 1), (5, 1))])
        book = book_of_bounds(marks, [1, 3, 3])
        self.assertEqual(self.assert_bars(book, (3, 9, 2, 1), (0, 0, 0, 1)), [((2, 1), (3, 1))])

    def test_by_a_chain_through_all_days(self):
        marks = [[1 if other in [day, day + 1] else 0 for other in range(5)] for day in range(5)]
        book = book_of_bounds(marks, [1, 1, 1, 1, 6])
        self.assertEqual(self.assert_bars(book, (2, 7, 7, 7, 7, 1), (0, 0, 0, 0, 0, 1)), [((2, 1), (6, 1))])
        # Back to front there is no chain.
        book = book_of_bounds(marks, [6, 1, 1, 1, 1])
        self.assertEqual(self.assert_bars(book, (7, 7, 7, 7, 2, 1), (0, 0, 0, 0, 0, 1)), [])

    def test_all_that_two_days_can_tell(self):
        shape = (0, 0, 1)
        found = {}
        for marks in mark_tables(2):
            if has_ring(marks):
                continue
            for lows in itertools.product([1, 2, 3, 4], repeat=2):
                for highs in itertools.product([1, 2, 3, 4], repeat=2):
                    book = book_of_bounds(marks, highs)
                    told = bars(book, lows + (1,), shape)
                    self.assertEqual(told, bars_by_halves(book, lows + (1,), shape))
                    found[len(told)] = True
        self.assertEqual(sorted(found), [0, 1, 2])

    def test_what_more_days_can_tell(self):
        rolls = Rolls(201)
        found = {}
        for turn in range(600):
            days = rolls.between(3, 5)
            marks = some_marks(rolls, days, rolls.between(2, 6))
            if has_ring(marks):
                continue
            highs = [rolls.between(1, 6) for day in range(days)]
            lows = [max(1, min(6, high + rolls.between(-1, 3))) for high in highs]
            book = book_of_bounds(marks, highs)
            prices, shape = tuple(lows + [1]), (0,) * days + (1,)
            told = bars(book, prices, shape)
            self.assertEqual(told, bars_by_halves(book, prices, shape))
            found[len(told)] = found.get(len(told), 0) + 1
            found["one share"] = found.get("one share", 0) + any([low == high for low, high in told])
        for kind in [0, 1, 2, "one share"]:
            self.assertGreater(found[kind], 5)


class BooksTest(BarsCase):
    def test_ordinary_books(self):
        rolls = Rolls(202)
        lengths = []
        for days in range(1, 9):
            for wares in range(2, 7):
                book = explained_book(rolls, days, wares, 9, 9)
                prices, shape = rolls.book(1, wares, 9, 3)[0]
                lengths.append(len(self.assert_bars(book, prices, shape)))
        self.assertGreater(lengths.count(0), 3)
        self.assertGreater(len(lengths) - lengths.count(0), 9)

    def test_eight_days_and_nine_with_the_new_one(self):
        rolls = Rolls(203)
        lengths = []
        for turn in range(40):
            book = days_of_one_taste(rolls, 8, 2, 30)
            shape = [(1, 0), (0, 1), (9, 1), (1, 9)][turn % 4]
            prices = (rolls.between(1, 30), rolls.between(1, 30))
            told = self.assert_bars(book, prices, shape)
            lengths.append(len(told))
            share = Fraction(*told[0][1]) if told else Fraction(1)
            longer = longer_book(book, prices, shape, share)
            self.assertEqual(len(longer), 9)
        self.assertEqual(sorted(set(lengths))[:3], [0, 1, 2])

    def test_rows_and_rings_of_eight(self):
        for book in [octagon(), row_of_eight(), row_of_eight(range(8)), row_of_eight((3,))]:
            wares = len(book[0][0])
            for prices in itertools.product([1, 7], repeat=wares):
                self.assert_bars(book, prices, (1,) + (0,) * (wares - 1))
                self.assert_bars(book, prices, (1,) * wares)

    def test_the_greatest_prices_and_amounts(self):
        rolls = Rolls(204)
        broken = 0
        for days in range(1, 9):
            for turn in range(2):
                book = highest_explained_book(rolls, days)
                prices, shape = highest_book(rolls, 1)[0]
                broken += len(self.assert_bars(book, prices, shape)) > 0
        self.assertGreater(broken, 4)
        most = ((HIGHEST_PRICE,) * 6, (HIGHEST_AMOUNT,) * 6)
        self.assertEqual(self.assert_bars((most,) * 8, most[0], most[1]), [])
        self.assertEqual(self.assert_bars((most,) * 8, (1,) * 6, (1,) + (0,) * 5), [])

    def test_to_one_piece_of_the_greatest_amounts(self):
        # A float would take both ends of these bars for one number.
        price, most = HIGHEST_PRICE, HIGHEST_AMOUNT
        book = (((price, price - 1), (most, most - 1)),)
        purse = price * most + (price - 1) * (most - 1)
        swapped = price * (most - 1) + (price - 1) * most
        self.assertEqual(purse - swapped, 1)
        low, high = Fraction(swapped, purse), Fraction(purse, swapped)
        told = self.assert_bars(book, (price - 1, price), (most - 1, most))
        self.assertEqual(told, [(low.as_integer_ratio(), high.as_integer_ratio())])

    def test_shapes_with_amounts_of_nothing(self):
        rolls = Rolls(205)
        for turn in range(6):
            book = explained_book(rolls, 4, 4, 9, 9)
            for ware in range(4):
                self.assert_bars(book, rolls.book(1, 4, 9, 9)[0][0], tuple([int(ware == own) for own in range(4)]))

    def test_the_prices_or_the_amounts_of_a_day_of_the_book(self):
        rolls = Rolls(206)
        for turn in range(6):
            book = explained_book(rolls, 4, 3, 9, 9)
            prices, shape = rolls.book(1, 3, 9, 9)[0]
            for day in book:
                self.assert_bars(book, day[0], shape)
                self.assert_bars(book, prices, day[1])
                # The day once more: at once its own amount the book stays explained.
                told = self.assert_bars(book, day[0], day[1])
                self.assertFalse(lies_in(told, Fraction(1)))


class AlikeTest(BarsCase):
    def cases(self, seed):
        rolls = Rolls(seed)
        told = []
        for turn in range(16):
            wares = rolls.between(2, 4)
            book = explained_book(rolls, rolls.between(2, 6), wares, 9, 9)
            prices, shape = rolls.book(1, wares, 9, 9)[0]
            told.append((book, prices, shape))
        for turn in range(8):
            book = days_of_one_taste(rolls, 8, 2, 30)
            told.append((book, (rolls.between(1, 30), rolls.between(1, 30)), (1, 0)))
        for turn in range(30):
            marks = some_marks(rolls, 4, 4)
            if not has_ring(marks):
                prices = tuple([rolls.between(1, 6) for day in range(4)] + [1])
                told.append((book_of_bounds(marks, [rolls.between(1, 6) for day in range(4)]), prices, (0, 0, 0, 0, 1)))
        self.assertGreater(len([case for case in told if bars(*case)]), 12)
        return told

    def test_the_days_in_another_order(self):
        rolls = Rolls(211)
        for book, prices, shape in self.cases(212):
            told = bars(book, prices, shape)
            for turn in range(4):
                self.assertEqual(bars(shuffled(rolls, book), prices, shape), told)
            self.assertEqual(bars(book[::-1], prices, shape), told)

    def test_a_day_that_stands_twice_says_no_more(self):
        for book, prices, shape in self.cases(213):
            told = bars(book, prices, shape)
            for day in book[:8 - len(book)]:
                self.assertEqual(bars(book + (day,), prices, shape), told)

    def test_prices_so_many_times_as_great(self):
        for book, prices, shape in self.cases(214):
            for times in [2, 7, 10 ** 6]:
                dearer = tuple([times * price for price in prices])
                self.assertEqual(bars(book, dearer, shape), bars(book, prices, shape))

    def test_a_shape_so_many_times_as_great(self):
        for book, prices, shape in self.cases(215):
            told = [(Fraction(*low), Fraction(*high)) for low, high in bars(book, prices, shape)]
            for times in [2, 12, 10 ** 15]:
                greater = tuple([times * amount for amount in shape])
                self.assertEqual(bars(book, prices, greater), [
                    ((low / times).as_integer_ratio(), (high / times).as_integer_ratio()) for low, high in told])

    def test_all_amounts_so_many_times_as_great(self):
        for book, prices, shape in self.cases(216):
            greater = tuple([(day[0], tuple([9 * amount for amount in day[1]])) for day in book])
            self.assertEqual(bars(greater, prices, tuple([9 * amount for amount in shape])), bars(book, prices, shape))

    def test_the_wares_in_another_order(self):
        for book, prices, shape in self.cases(217):
            turned = tuple([(day[0][::-1], day[1][::-1]) for day in book])
            self.assertEqual(bars(turned, prices[::-1], shape[::-1]), bars(book, prices, shape))

    def test_a_further_day_lifts_no_bar(self):
        for book, prices, shape in self.cases(218):
            for low, high in bars(book[:-1], prices, shape):
                for share in [low, high]:
                    self.assertTrue(lies_in(bars(book, prices, shape), Fraction(*share)))


class NoTasteTest(unittest.TestCase):
    def assert_refused(self, book, prices, shape):
        with self.assertRaises(NoTaste) as caught:
            bars(book, prices, shape)
        self.assertIsInstance(caught.exception, TasteError)
        self.assertNotIsInstance(caught.exception, (NoBook, NoDay))

    def test_books_that_are_not_explained(self):
        self.assert_refused((((2, 1), (1, 0)), ((1, 2), (0, 1))), (1, 1), (1, 1))
        for better in range(8):
            self.assert_refused(octagon((better,)), (1, 1, 1), (1, 0, 0))
        self.assert_refused(octagon(range(8)), (1, 1, 1), (1, 1, 1))

    def test_just_where_no_taste_explains_the_book(self):
        rolls = Rolls(221)
        refused = 0
        for turn in range(120):
            book = rolls.book(rolls.between(1, 8), rolls.between(1, 4), 9, 9)
            prices, shape = rolls.book(1, len(book[0][0]), 9, 9)[0]
            if taste_of(book)[0] == "taste":
                self.assertIs(type(bars(book, prices, shape)), list)
            else:
                self.assert_refused(book, prices, shape)
                refused += 1
        self.assertGreater(refused, 20)
        self.assertLess(refused, 100)


class AskedAgainTest(unittest.TestCase):
    def test_what_is_told_may_be_changed(self):
        for prices, shape in [((2, 1), (1, 0)), ((1, 2), (0, 1))]:
            first = bars(ONE_DAY, prices, shape)
            kept = list(first)
            told = bars(ONE_DAY, prices, shape)
            told.insert(0, "other")
            told.reverse()
            self.assertEqual(first, kept)
            self.assertEqual(bars(ONE_DAY, prices, shape), kept)

    def test_what_is_handed_in_stays_as_it_was(self):
        book, prices, shape = tuple([tuple(day) for day in ONE_DAY]), (2, 1), (1, 0)
        bars(book, prices, shape)
        self.assertEqual((book, prices, shape), (ONE_DAY, (2, 1), (1, 0)))
        self.assertIs(check(book), True)

    def test_by_its_arguments_names(self):
        self.assertEqual(bars(book=ONE_DAY, prices=(2, 1), shape=(1, 0)), [((5, 2), (4, 1))])

    def test_somewhat_beyond_the_bounds_nothing_is_refused(self):
        rolls = Rolls(222)
        book = explained_book(rolls, 10, 8, 10 ** 12, 10 ** 30)
        for turn in range(3):
            prices, shape = rolls.book(1, 8, 10 ** 12, 10 ** 30)[0]
            self.assertIs(type(bars(book, prices, shape)), list)


if __name__ == "__main__":
    unittest.main()
