import unittest
from decimal import Decimal
from fractions import Fraction

from tastesbook.days import check, cost, purse
from tastesbook.errors import NoBook, NoDay

BOOK = (
    ((2, 3), (4, 5)),
    ((7, 11), (0, 13)),
    ((1, 17), (19, 0)),
)
# What the amounts of each column's day cost at the prices of each row's day.
COSTS = [
    [2 * 4 + 3 * 5, 3 * 13, 2 * 19],
    [7 * 4 + 11 * 5, 11 * 13, 7 * 19],
    [1 * 4 + 17 * 5, 17 * 13, 1 * 19],
]
HIGHEST_PRICE = 10 ** 9
HIGHEST_AMOUNT = 10 ** 18

# Things that can stand in no place of a book, neither for a number nor for a tuple.
OTHER_THINGS = [
    None, True, False, "", "1", "ab", "12", b"12", 1.0, 2.0, float("nan"), 1j, Decimal(1), Fraction(1),
    [], [1], [1, 2], {}, {0: 1, 1: 2}, {1, 2}, frozenset([1, 2]), range(1, 3), iter((1, 2)), object(),
    int, tuple, len,
]


def places_within(thing):
    if not isinstance(thing, tuple):
        return [()]
    return [()] + [(k,) + rest for k in range(len(thing)) for rest in places_within(thing[k])]


def put_at(thing, place, new):
    if place == ():
        return new
    k = place[0]
    return thing[:k] + (put_at(thing[k], place[1:], new),) + thing[k + 1:]


def found_at(thing, place):
    for k in place:
        thing = thing[k]
    return thing


def places_of(kind):
    # kind 0 for prices, 1 for amounts
    return [place for place in places_within(BOOK) if len(place) == 3 and place[1] == kind]


class BookCase(unittest.TestCase):
    def assert_book(self, thing):
        self.assertIs(check(thing), True)

    def assert_no_book(self, thing):
        with self.assertRaises(NoBook):
            check(thing)


class CheckTest(BookCase):
    def test_ordinary_books(self):
        self.assert_book(BOOK)
        self.assert_book((((1,), (1,)),))
        self.assert_book((BOOK[0], BOOK[0]))

    def test_prices_at_the_bounds(self):
        for place in places_of(0):
            for price in [1, HIGHEST_PRICE - 1, HIGHEST_PRICE]:
                with self.subTest(place=place, price=price):
                    self.assert_book(put_at(BOOK, place, price))
            for price in [0, -1, -HIGHEST_PRICE, HIGHEST_PRICE + 1, HIGHEST_AMOUNT, 10 ** 60]:
                with self.subTest(place=place, price=price):
                    self.assert_no_book(put_at(BOOK, place, price))

    def test_amounts_at_the_bounds(self):
        for place in places_of(1):
            for amount in [1, HIGHEST_PRICE + 1, HIGHEST_AMOUNT - 1, HIGHEST_AMOUNT]:
                with self.subTest(place=place, amount=amount):
                    self.assert_book(put_at(BOOK, place, amount))
            for amount in [-1, -HIGHEST_AMOUNT, HIGHEST_AMOUNT + 1, 10 ** 60]:
                with self.subTest(place=place, amount=amount):
                    self.assert_no_book(put_at(BOOK, place, amount))

    def test_an_amount_of_nothing(self):
        self.assert_book((((1, 1), (0, 1)),))
        self.assert_book((((1, 1), (1, 0)),))
        self.assert_book((((1,) * 6, (0, 0, 0, 0, 0, 1)),))

    def test_nothing_bought_at_all(self):
        for wares in range(1, 7):
            self.assert_no_book((((1,) * wares, (0,) * wares),))
        for day in range(3):
            self.assert_no_book(put_at(BOOK, (day, 1), (0, 0)))

    def test_numbers_too_long_to_be_written(self):
        for place in places_of(0) + places_of(1):
            for number in [10 ** 5000, -10 ** 5000]:
                self.assert_no_book(put_at(BOOK, place, number))

    def test_numbers_of_wares(self):
        for wares in range(1, 7):
            with self.subTest(wares=wares):
                self.assert_book((((2,) * wares, (3,) * wares),))
                self.assert_book((((2,) * wares, (3,) * wares),) * 8)
        for wares in [0, 7, 8, 100]:
            with self.subTest(wares=wares):
                self.assert_no_book((((2,) * wares, (3,) * wares),))
                self.assert_no_book((((2,) * wares, (3,) * wares),) * 2)

    def test_numbers_of_days(self):
        for days in range(1, 9):
            with self.subTest(days=days):
                self.assert_book((((2, 5), (3, 0)),) * days)
        for days in [0, 9, 10, 100]:
            with self.subTest(days=days):
                self.assert_no_book((((2, 5), (3, 0)),) * days)

    def test_days_of_unlike_numbers_of_wares(self):
        for one in range(1, 7):
            for other in range(1, 7):
                first = ((1,) * one, (1,) * one)
                second = ((1,) * other, (1,) * other)
                for book in [(first, second), (first, first, second), (first,) * 7 + (second,)]:
                    with self.subTest(one=one, other=other, days=len(book)):
                        if one == other:
                            self.assert_book(book)
                        else:
                            self.assert_no_book(book)

    def test_prices_and_amounts_of_unlike_lengths(self):
        for prices in range(0, 8):
            for amounts in range(0, 8):
                if prices != amounts:
                    day = ((1,) * prices, (1,) * amounts)
                    with self.subTest(prices=prices, amounts=amounts):
                        self.assert_no_book((day,))
                        self.assert_no_book((day, day))
                        self.assert_no_book((((1,) * prices, (1,) * prices), day))
                        self.assert_no_book((((1,) * amounts, (1,) * amounts), day))

    def test_days_that_are_no_pairs(self):
        for day in [(), ((1, 2),), ((1, 2), (3, 4), (5, 6)), ((1, 2), (3, 4), ()), (1, 2), (1,)]:
            with self.subTest(day=day):
                self.assert_no_book((day,))
                for place in range(3):
                    self.assert_no_book(put_at(BOOK, (place,), day))

    def test_other_things_in_each_place(self):
        for place in places_within(BOOK):
            for thing in OTHER_THINGS:
                with self.subTest(place=place, thing=thing):
                    self.assert_no_book(put_at(BOOK, place, thing))

    def test_ints_in_the_place_of_tuples(self):
        for place in places_within(BOOK):
            if len(place) < 3:
                for thing in [0, 1, 2, -1, 10 ** 60]:
                    with self.subTest(place=place, thing=thing):
                        self.assert_no_book(put_at(BOOK, place, thing))

    def test_tuples_in_the_place_of_numbers(self):
        for place in places_of(0) + places_of(1):
            for thing in [(), (1,), (1, 2), BOOK]:
                with self.subTest(place=place, thing=thing):
                    self.assert_no_book(put_at(BOOK, place, thing))

    def test_lists_and_dicts_in_the_place_of_tuples(self):
        for place in places_within(BOOK):
            if len(place) < 3:
                members = found_at(BOOK, place)
                for thing in [list(members), dict(enumerate(members)), iter(members)]:
                    with self.subTest(place=place, thing=thing):
                        self.assert_no_book(put_at(BOOK, place, thing))

    def test_true_and_false_are_no_numbers(self):
        self.assert_no_book((((True,), (1,)),))
        self.assert_no_book((((1,), (True,)),))
        self.assert_no_book((((1, 1), (1, False)),))
        self.assert_no_book((((1, 1), (False, 1)),))

    def test_things_that_hold_themselves(self):
        ring = []
        ring.append(ring)
        self.assert_no_book(ring)
        self.assert_no_book((ring,))
        self.assert_no_book(put_at(BOOK, (2, 1, 1), ring))
        deep = ()
        for step in range(5000):
            deep = (deep,)
        self.assert_no_book(deep)

    def test_answered_equally_again(self):
        self.assert_book(BOOK)
        self.assert_no_book(())
        self.assert_book(BOOK)
        self.assert_no_book(())
        self.assert_no_book(list(BOOK))
        self.assert_book(BOOK)


class CostTest(unittest.TestCase):
    def test_each_pair_of_days(self):
        for day in range(3):
            for other in range(3):
                with self.subTest(day=day, other=other):
                    told = cost(BOOK, day, other)
                    self.assertIs(type(told), int)
                    self.assertEqual(told, COSTS[day][other])

    def test_prices_are_the_days_and_amounts_the_others(self):
        book = (((2,), (3,)), ((5,), (7,)))
        self.assertEqual(cost(book, 0, 1), 2 * 7)
        self.assertEqual(cost(book, 1, 0), 5 * 3)

    def test_purses(self):
        for day in range(3):
            told = purse(BOOK, day)
            self.assertIs(type(told), int)
            self.assertEqual(told, COSTS[day][day])

    def test_six_wares_and_eight_days(self):
        book = tuple([(tuple(range(d + 1, d + 7)), tuple(range(d, d + 6))) for d in range(8)])
        for day in range(8):
            self.assertEqual(purse(book, day), sum([(day + 1 + k) * (day + k) for k in range(6)]))
            for other in range(8):
                self.assertEqual(cost(book, day, other), sum([(day + 1 + k) * (other + k) for k in range(6)]))

    def test_at_the_bounds(self):
        high = ((HIGHEST_PRICE,) * 6, (HIGHEST_AMOUNT,) * 6)
        low = ((1,) * 6, (0, 0, 0, 0, 0, 1))
        book = (high, low)
        self.assertEqual(purse(book, 0), 6 * 10 ** 27)
        self.assertEqual(cost(book, 0, 1), 10 ** 9)
        self.assertEqual(cost(book, 1, 0), 6 * 10 ** 18)
        self.assertEqual(purse(book, 1), 1)
        # A float would lose the last figure.
        odd = (((HIGHEST_PRICE - 1, 1), (HIGHEST_AMOUNT - 1, 1)),)
        self.assertEqual(purse(odd, 0), 10 ** 27 - 10 ** 18 - 10 ** 9 + 2)

    def test_somewhat_beyond_the_bounds_nothing_is_refused(self):
        book = tuple([((10 ** 9 + 1, 2), (10 ** 30, d)) for d in range(9)])
        self.assertEqual(purse(book, 8), (10 ** 9 + 1) * 10 ** 30 + 16)
        self.assertEqual(cost(book, 0, 8), (10 ** 9 + 1) * 10 ** 30 + 16)
        self.assertEqual(cost(book, 8, 0), (10 ** 9 + 1) * 10 ** 30)

    def test_answered_equally_again(self):
        self.assertEqual(cost(BOOK, 0, 1), COSTS[0][1])
        self.assertEqual(purse((((9, 9), (9, 9)),), 0), 162)
        with self.assertRaises(NoDay):
            cost(BOOK, 0, 3)
        self.assertEqual(cost(BOOK, 0, 1), COSTS[0][1])
        self.assertEqual(purse(BOOK, 2), COSTS[2][2])
        self.assertEqual(purse(BOOK, 2), COSTS[2][2])


class NoDayTest(unittest.TestCase):
    def no_days(self, days):
        near = [-1, -2, -days, -days - 1, days, days + 1, 2 * days]
        # The last ones have more figures than Python writes.
        return near + [8, 9, 100, -100, 10 ** 30, -10 ** 30, 10 ** 5000, -10 ** 5000]

    def assert_no_day(self, function, *arguments):
        with self.assertRaises(NoDay):
            function(*arguments)

    def test_numbers_of_no_day_in_each_place(self):
        for days in range(1, 9):
            book = (((2, 3), (5, 7)),) * days
            for wrong in self.no_days(days):
                self.assert_no_day(purse, book, wrong)
                for day in range(days):
                    self.assert_no_day(cost, book, wrong, day)
                    self.assert_no_day(cost, book, day, wrong)
                for also_wrong in self.no_days(days):
                    self.assert_no_day(cost, book, wrong, also_wrong)

    def test_the_first_and_the_last_day_are_days(self):
        for days in range(1, 9):
            book = (((2, 3), (5, 7)),) * days
            self.assertEqual(purse(book, 0), 31)
            self.assertEqual(purse(book, days - 1), 31)
            self.assertEqual(cost(book, 0, days - 1), 31)
            self.assertEqual(cost(book, days - 1, 0), 31)


if __name__ == "__main__":
    unittest.main()
