import itertools
import math
import unittest
from fractions import Fraction

from samples import (
    HIGHEST_AMOUNT, HIGHEST_PRICE, Rolls, book_of_costs, has_ring, highest_book, octagon, plain_cost, plain_marks,
    row_of_eight, shuffled,
)
from tastesbook.kinds import Kind, Mix, Money, Parts, Steady, Sums, Total
from tastesbook.tastes import taste_of

SIX = [Money, Steady, Sums, Mix, Parts, Total]
# What each kind explains, the wider one explains too.
WIDER = [(Total, Sums), (Sums, Steady), (Mix, Steady), (Parts, Steady), (Steady, Kind), (Money, Kind)]
# Books by the kinds, besides a taste, that explain them.
WRITTEN_OUT = [
    ("", (((1, 1), (0, 1)), ((2, 1), (1, 1)))),
    ("Money", (((1, 1), (1, 1)), ((1, 2), (0, 1)))),
    ("Money Steady", (((1, 1), (1, 1)), ((1, 2), (3, 1)))),
    ("Money Steady Mix", (((1, 1), (1, 1)), ((1, 2), (1, 1)))),
    ("Money Steady Parts", (((1, 1), (1, 1)), ((1, 2), (2, 1)))),
    ("Money Steady Sums", (((1, 1), (0, 1)), ((1, 2), (1, 1)))),
    ("Money Steady Sums Mix Parts", (((1, 2), (0, 1)),)),
    ("Money Steady Sums Mix Parts Total", (((1, 1), (0, 1)),)),
    ("Money Steady Sums Total", (((1, 1), (0, 1)), ((1, 1), (1, 0)))),
    ("Steady", (((1, 1), (1, 1)), ((1, 2), (3, 2)))),
    ("Steady Mix", (((1, 1), (1, 1)), ((1, 2), (2, 2)))),
    ("Steady Parts", (((1, 1), (1, 1)), ((2, 3), (3, 2)))),
    ("Steady Sums", (((1, 1), (0, 1)), ((1, 2), (1, 2)))),
    ("Steady Sums Mix Parts", (((1, 1), (0, 1)), ((1, 2), (0, 2)))),
    ("Steady Sums Mix Parts Total", (((1, 1), (1, 0)), ((2, 3), (2, 0)))),
    ("Steady Sums Total", (((1, 1), (0, 1)), ((2, 3), (3, 0)))),
]
UNEXPLAINED = (((1, 1), (0, 1)), ((2, 1), (1, 0)))


def rounds(ring):
    """Each member of a ring with the next one, the last with the first."""
    return list(zip(ring, ring[1:] + ring[:1]))


def with_amount(book, day, ware, amount):
    """The book with another amount of one ware on one day."""
    amounts = list(book[day][1])
    amounts[ware] = amount
    return book[:day] + ((book[day][0], tuple(amounts)),) + book[day + 1:]


def one_more(book, day, ware):
    return with_amount(book, day, ware, book[day][1][ware] + 1)


def mix_book(rolls, days, mix, price, most):
    book = []
    for day in range(days):
        times = rolls.between(1, most)
        prices = tuple([rolls.between(1, price) for ware in mix])
        book.append((prices, tuple([times * amount for amount in mix])))
    return tuple(book)


def parts_book(rolls, days, parts, most):
    """Each price divides 720720, so that each part of so many times that much buys whole amounts."""
    book = []
    for day in range(days):
        times = rolls.between(1, most)
        prices = tuple([rolls.between(1, 16) for part in parts])
        book.append((prices, tuple([times * part * 720720 // price for part, price in zip(parts, prices)])))
    return tuple(book)


def sums_book(rolls, days, worths, most):
    """Each day buys wares at prices that go by the worths; all others are dearer than that or as dear."""
    book = []
    for day in range(days):
        times = rolls.between(1, 9)
        bought = [rolls.below(2) for ware in worths]
        bought[rolls.below(len(worths))] = 1
        prices = tuple([times * worth + (0 if own else rolls.below(4)) for worth, own in zip(worths, bought)])
        book.append((prices, tuple([rolls.between(1, most) if own else 0 for own in bought])))
    return tuple(book)


class KindCase(unittest.TestCase):
    def assert_ints(self, numbers):
        for number in numbers:
            self.assertIs(type(number), int)

    def assert_share(self, share):
        self.assertIs(type(share), tuple)
        self.assertEqual(len(share), 2)
        self.assert_ints(share)
        self.assertGreaterEqual(min(share), 1)
        self.assertEqual(math.gcd(share[0], share[1]), 1)

    def assert_ring_of_days(self, book, ring):
        self.assertIs(type(ring), list)
        self.assert_ints(ring)
        self.assertGreaterEqual(len(ring), 2)
        self.assertEqual(len(set(ring)), len(ring))
        for day in ring:
            self.assertIn(day, range(len(book)))

    def each_two_days(self, book):
        return itertools.product(range(len(book)), repeat=2)

    def assert_kind_answer(self, book, told):
        self.assertEqual(told, taste_of(book))
        self.assertEqual(told[0], "ring" if has_ring(plain_marks(book)) else "taste")

    def assert_money_answer(self, book, told):
        self.assertEqual(len(told), 2)
        if told[0] == "ring":
            self.assert_ring_of_days(book, told[1])
            costs = [plain_cost(book, day, following) for day, following in rounds(told[1])]
            self.assertLess(sum(costs), sum([plain_cost(book, day, day) for day in told[1]]))
            return
        self.assertIs(type(told[1]), list)
        self.assert_ints(told[1])
        self.assertEqual(len(told[1]), len(book))
        for day, other in self.each_two_days(book):
            gap = plain_cost(book, day, other) - plain_cost(book, day, day)
            self.assertLessEqual(told[1][other], told[1][day] + gap)

    def assert_steady_answer(self, book, told):
        self.assertEqual(len(told), 2)
        if told[0] == "ring":
            self.assert_ring_of_days(book, told[1])
            costs = [plain_cost(book, day, following) for day, following in rounds(told[1])]
            self.assertLess(math.prod(costs), math.prod([plain_cost(book, day, day) for day in told[1]]))
            return
        self.assertIs(type(told[1]), list)
        self.assertEqual(len(told[1]), len(book))
        for share in told[1]:
            self.assert_share(share)
        worths = [Fraction(*share) for share in told[1]]
        for day, other in self.each_two_days(book):
            left = worths[other] * plain_cost(book, day, day)
            self.assertLessEqual(left, worths[day] * plain_cost(book, day, other))

    def assert_ring_of_pairs(self, book, pairs):
        self.assertIs(type(pairs), list)
        self.assertGreaterEqual(len(pairs), 2)
        for pair in pairs:
            self.assertIs(type(pair), tuple)
            self.assertEqual(len(pair), 2)
            self.assert_ints(pair)
            self.assertIn(pair[0], range(len(book[0][0])))
            self.assertIn(pair[1], range(len(book)))
            self.assertGreater(book[pair[1]][1][pair[0]], 0)
        self.assertEqual(len(set([ware for ware, day in pairs])), len(pairs))
        following = [book[pair[1]][0][after[0]] for pair, after in rounds(pairs)]
        self.assertLess(math.prod(following), math.prod([book[day][0][ware] for ware, day in pairs]))

    def assert_sums_answer(self, book, told):
        self.assertEqual(len(told), 2)
        if told[0] == "ring":
            self.assert_ring_of_pairs(book, told[1])
            return
        self.assertIs(type(told[1]), list)
        self.assertEqual(len(told[1]), len(book[0][0]))
        for share in told[1]:
            self.assert_share(share)
        worths = [Fraction(*share) for share in told[1]]
        for prices, amounts in book:
            for ware, other in itertools.product(range(len(prices)), repeat=2):
                if amounts[ware] > 0:
                    self.assertGreaterEqual(worths[ware] * prices[other], worths[other] * prices[ware])

    def assert_mix_answer(self, book, told):
        self.assertEqual(len(told), 2)
        self.assertIs(type(told[1]), tuple)
        self.assert_ints(told[1])
        if told[0] == "but":
            day, other, ware, another = told[1]
            self.assertIn(day, range(len(book)))
            self.assertIn(other, range(len(book)))
            self.assertIn(ware, range(len(book[0][0])))
            self.assertIn(another, range(len(book[0][0])))
            one, two = book[day][1], book[other][1]
            self.assertNotEqual(one[ware] * two[another], one[another] * two[ware])
            return
        mix = told[1]
        self.assertEqual(len(mix), len(book[0][0]))
        self.assertGreaterEqual(min(mix), 0)
        self.assertEqual(math.gcd(*mix), 1)
        for prices, amounts in book:
            times = math.gcd(*amounts)
            self.assertEqual(amounts, tuple([times * amount for amount in mix]))

    def assert_parts_answer(self, book, told):
        self.assertEqual(len(told), 2)
        spent = [[price * amount for price, amount in zip(*day)] for day in book]
        if told[0] == "but":
            self.assertIs(type(told[1]), tuple)
            self.assert_ints(told[1])
            day, other, ware = told[1]
            self.assertIn(day, range(len(book)))
            self.assertIn(other, range(len(book)))
            self.assertIn(ware, range(len(book[0][0])))
            self.assertNotEqual(spent[day][ware] * sum(spent[other]), spent[other][ware] * sum(spent[day]))
            return
        self.assertIs(type(told[1]), list)
        self.assertEqual(len(told[1]), len(book[0][0]))
        for part in told[1]:
            if part != (0, 1):
                self.assert_share(part)
            self.assertIs(type(part), tuple)
            self.assert_ints(part)
        for row in spent:
            self.assertEqual([Fraction(*part) for part in told[1]], [Fraction(own, sum(row)) for own in row])

    def assert_total_answer(self, book, told):
        if told[0] == "but":
            self.assertEqual(len(told), 2)
            self.assertIs(type(told[1]), tuple)
            self.assert_ints(told[1])
            day, ware, cheaper = told[1]
            self.assertIn(day, range(len(book)))
            self.assertIn(ware, range(len(book[0][0])))
            self.assertIn(cheaper, range(len(book[0][0])))
            self.assertGreater(book[day][1][ware], 0)
            self.assertLess(book[day][0][cheaper], book[day][0][ware])
            return
        self.assertEqual(told, ("taste",))
        for prices, amounts in book:
            for price, amount in zip(prices, amounts):
                self.assertTrue(amount == 0 or price == min(prices))

    def assert_answered(self, kind, book):
        asked = kind(book)
        told = asked.answer()
        self.assertIs(type(told), tuple)
        counter = "but" if kind in [Mix, Parts, Total] else "ring"
        self.assertIn(told[0], ["taste", counter])
        checks = {
            Kind: self.assert_kind_answer, Money: self.assert_money_answer, Steady: self.assert_steady_answer,
            Sums: self.assert_sums_answer, Mix: self.assert_mix_answer, Parts: self.assert_parts_answer,
            Total: self.assert_total_answer,
        }
        checks[kind](book, told)
        self.assertIs(asked.explains(), told[0] == "taste")
        self.assertEqual(asked.answer(), told)
        self.assertEqual(kind(book).answer(), told)
        self.assertIs(kind(book).explains(), told[0] == "taste")
        return told

    def assert_all_answered(self, book):
        """Tells by which kinds the book is explained."""
        explained = [kind for kind in [Kind] + SIX if self.assert_answered(kind, book)[0] == "taste"]
        for narrower, wider in WIDER:
            self.assertTrue(narrower not in explained or wider in explained, (narrower, book))
        return explained

    def assert_explained(self, kind, book):
        told = self.assert_answered(kind, book)
        self.assertEqual(told[0], "taste")
        self.assert_all_answered(book)
        return told

    def assert_not_explained(self, kind, book):
        told = self.assert_answered(kind, book)
        self.assertNotEqual(told[0], "taste")
        self.assert_all_answered(book)
        return told


class ClassesTest(unittest.TestCase):
    def test_the_six_are_under_kind_and_none_under_another(self):
        for kind in SIX:
            self.assertTrue(issubclass(kind, Kind))
            for other in SIX:
                self.assertEqual(issubclass(kind, other), kind is other)
            self.assertFalse(issubclass(Kind, kind))

    def test_made_of_a_book_by_its_name(self):
        book = WRITTEN_OUT[1][1]
        for kind in [Kind] + SIX:
            self.assertEqual(kind(book=book).answer(), kind(book).answer())

    def test_two_objects_do_not_mix_their_books(self):
        for kind in [Kind] + SIX:
            one, other = kind(WRITTEN_OUT[7][1]), kind(UNEXPLAINED)
            self.assertIs(one.explains(), True)
            self.assertIs(other.explains(), False)
            self.assertIs(one.explains(), True)


class AllKindsTest(KindCase):
    def test_written_out(self):
        for names, book in WRITTEN_OUT:
            with self.subTest(names=names):
                explained = self.assert_all_answered(book)
                self.assertEqual(" ".join([kind.__name__ for kind in explained]), ("Kind " + names).strip())
        self.assertEqual(self.assert_all_answered(UNEXPLAINED), [])

    def test_one_day(self):
        rolls = Rolls(71)
        for wares in range(1, 7):
            for most in [1, 3, HIGHEST_AMOUNT]:
                book = rolls.book(1, wares, HIGHEST_PRICE, most)
                explained = self.assert_all_answered(book)
                for kind in [Kind, Money, Steady, Mix, Parts, Sums]:
                    self.assertIn(kind, explained)

    def test_one_ware(self):
        rolls = Rolls(72)
        for days in range(1, 9):
            for price, amount in [(3, 3), (HIGHEST_PRICE, HIGHEST_AMOUNT)]:
                book = rolls.book(days, 1, price, amount)
                explained = self.assert_all_answered(book)
                for kind in [Kind, Steady, Sums, Mix, Parts, Total]:
                    self.assertIn(kind, explained)

    def test_all_books_of_small_numbers(self):
        days = [((one, two), (three, four)) for one, two in [(1, 1), (1, 2), (2, 3)]
                for three, four in itertools.product(range(3), repeat=2) if three + four > 0]
        for length in [1, 2]:
            for book in itertools.product(days, repeat=length):
                self.assert_all_answered(book)

    def test_ordinary_books(self):
        rolls = Rolls(73)
        counts = dict.fromkeys([Kind] + SIX, 0)
        books = 0
        for days in range(1, 9):
            for wares in range(1, 7):
                for price, amount in [(2, 2), (3, 9), (9, 9), (100, 9)]:
                    books += 1
                    for kind in self.assert_all_answered(rolls.book(days, wares, price, amount)):
                        counts[kind] += 1
        for kind in counts:
            self.assertGreater(counts[kind], 9)
            self.assertLess(counts[kind], books - 9)

    def test_the_greatest_prices_and_amounts(self):
        rolls = Rolls(74)
        for days in range(1, 9):
            for turn in range(6):
                self.assert_all_answered(highest_book(rolls, days))
        self.assert_all_answered(rolls.book(8, 6, HIGHEST_PRICE, HIGHEST_AMOUNT))
        most = ((HIGHEST_PRICE,) * 6, (HIGHEST_AMOUNT,) * 6)
        self.assertEqual(self.assert_all_answered((most,) * 8), [Kind] + SIX)

    def test_equal_days(self):
        for names, book in WRITTEN_OUT:
            explained = self.assert_all_answered(book)
            for times in [2, 4]:
                self.assertEqual(self.assert_all_answered(book * times), explained)
        self.assertEqual(self.assert_all_answered(UNEXPLAINED * 4), [])

    def test_rings_and_rows_of_eight(self):
        for better in [(), (3,), (0, 4), range(8)]:
            self.assert_all_answered(octagon(better))
            self.assert_all_answered(row_of_eight(better))

    def test_the_order_of_days_does_not_matter(self):
        rolls = Rolls(75)
        books = [book for names, book in WRITTEN_OUT] + [UNEXPLAINED, octagon((2,)), row_of_eight(range(8))]
        books += [mix_book(rolls, 8, (2, 0, 5), 9, 9), parts_book(rolls, 8, (3, 0, 5), 9)]
        books += [sums_book(rolls, 8, (3, 4, 5), 9)]
        books += [rolls.book(rolls.between(2, 8), rolls.between(1, 3), 4, 4) for turn in range(30)]
        for book in books:
            explained = self.assert_all_answered(book)
            for turn in range(4):
                self.assertEqual(self.assert_all_answered(shuffled(rolls, book)), explained)

    def test_somewhat_beyond_the_bounds_nothing_is_refused(self):
        rolls = Rolls(76)
        for turn in range(5):
            self.assert_all_answered(rolls.book(10, 8, 10 ** 12, 10 ** 30))


class MoneyTest(KindCase):
    def test_the_costs_around_just_as_much_as_the_purses_and_one_less(self):
        for around in range(2, 7):
            costs = [[100 for other in range(around)] for day in range(around)]
            for day in range(around):
                costs[day][day] = 50
                costs[day][(day + 1) % around] = 50
            # One gives away what the next one saves.
            costs[0][1 % around] = 50 - around
            costs[1][2 % around] = 50 + around
            told = self.assert_explained(Money, book_of_costs(costs))
            self.assertEqual(told[1][1] - told[1][0], -around)
            costs[1][2 % around] -= 1
            told = self.assert_not_explained(Money, book_of_costs(costs))
            place = told[1].index(0)
            self.assertEqual(told[1][place:] + told[1][:place], list(range(around)))
            costs[1][2 % around] += 2
            self.assert_explained(Money, book_of_costs(costs))

    def test_weights_of_one_are_not_enough_where_others_are(self):
        # Day 0 saves 9 by day 1, which falls short of day 0 by 1 alone.
        book = book_of_costs([[10, 1], [11, 10]])
        self.assert_not_explained(Money, book)
        self.assertTrue(Kind(book).explains())

    def test_twice_as_much_alters_it_by_money(self):
        book = (((1, 1), (1, 1)), ((1, 2), (2, 2)))
        self.assert_not_explained(Money, book)
        self.assert_explained(Money, (book[0], (book[1][0], (1, 1))))

    def test_the_greatest_costs_to_one_piece(self):
        most, price = HIGHEST_AMOUNT, HIGHEST_PRICE
        # At the same prices all amounts are worth what they cost.
        book = tuple([((price, price - 1), (most - day, most - 2 * day)) for day in range(8)])
        told = self.assert_explained(Money, book)
        self.assertEqual(told[1][0] - told[1][7], plain_cost(book, 0, 0) - plain_cost(book, 7, 7))
        # One piece more of the ware that has become dearer, as much of it, or one piece less.
        for amount, kind in [(most, "ring"), (most - 1, "taste"), (most - 2, "taste")]:
            book = (((price, price - 1), (most, most - 1)), ((price - 1, price), (most, amount)))
            self.assertEqual(self.assert_answered(Money, book)[0], kind)
            self.assert_all_answered(book)

    def test_small_books_against_all_rings(self):
        rolls = Rolls(81)
        kinds = []
        for turn in range(400):
            days = rolls.between(2, 4)
            costs = [[rolls.between(1, 9) for other in range(days)] for day in range(days)]
            losing = False
            for length in range(2, days + 1):
                for ring in itertools.permutations(range(days), length):
                    gaps = [costs[day][following] - costs[day][day] for day, following in rounds(ring)]
                    losing = losing or sum(gaps) < 0
            kinds.append(self.assert_answered(Money, book_of_costs(costs))[0])
            self.assertEqual(kinds[-1], "ring" if losing else "taste")
        self.assertGreater(kinds.count("taste"), 30)
        self.assertGreater(kinds.count("ring"), 30)


class SteadyTest(KindCase):
    def test_the_costs_around_just_as_much_as_the_purses_and_one_less(self):
        for around in range(2, 7):
            costs = [[10 ** 6 for other in range(around)] for day in range(around)]
            for day in range(around):
                costs[day][day] = 600
                costs[day][(day + 1) % around] = 600
            costs[0][1 % around] = 400
            costs[1][2 % around] = 900
            told = self.assert_explained(Steady, book_of_costs(costs))
            self.assertEqual(Fraction(*told[1][1]) / Fraction(*told[1][0]), Fraction(2, 3))
            costs[1][2 % around] = 899
            told = self.assert_not_explained(Steady, book_of_costs(costs))
            place = told[1].index(0)
            self.assertEqual(told[1][place:] + told[1][:place], list(range(around)))
            costs[1][2 % around] = 901
            self.assert_explained(Steady, book_of_costs(costs))

    def test_a_taste_that_is_not_steady(self):
        book = book_of_costs([[10, 1], [11, 10]])
        self.assert_not_explained(Steady, book)
        self.assertTrue(Kind(book).explains())

    def test_so_many_times_as_much_alters_nothing(self):
        rolls = Rolls(82)
        kinds = []
        for turn in range(60):
            book = rolls.book(rolls.between(2, 4), 3, 5, 5)
            kinds.append(Steady(book).explains())
            longer = []
            for prices, amounts in book:
                times = rolls.between(1, 10 ** 9)
                longer.append((prices, tuple([times * amount for amount in amounts])))
            longer = tuple(longer)
            self.assertIs(Steady(longer).explains(), kinds[-1])
            self.assert_all_answered(longer)
        self.assertGreater(kinds.count(True), 5)
        self.assertGreater(kinds.count(False), 5)

    def test_worths_of_one_mix(self):
        told = self.assert_explained(Steady, (((1, 2), (6, 9)), ((5, 1), (4, 6)), ((3, 7), (2, 3))))
        worths = [Fraction(*share) for share in told[1]]
        self.assertEqual([worth / worths[2] for worth in worths], [3, 2, 1])

    def test_the_greatest_costs_to_one_piece(self):
        most, price = HIGHEST_AMOUNT, HIGHEST_PRICE
        # The same prices on all days: worth goes by what is paid.
        book = tuple([((price, price - 1), (most - day, most - 2 * day)) for day in range(8)])
        told = self.assert_explained(Steady, book)
        worths = [Fraction(*share) for share in told[1]]
        self.assertEqual(worths[0] / worths[7], Fraction(plain_cost(book, 0, 0), plain_cost(book, 7, 7)))
        # One piece less of the ware that has become dearer, or of the one that has become cheaper.
        for amounts, kind in [((most, most - 1), "taste"), ((most, most), "taste"), ((most - 1, most), "ring")]:
            book = (((price, price - 1), (most, most)), ((price - 1, price), amounts))
            self.assertEqual(self.assert_answered(Steady, book)[0], kind)
            self.assert_all_answered(book)

    def test_small_books_against_all_rings(self):
        rolls = Rolls(83)
        kinds = []
        for turn in range(400):
            days = rolls.between(2, 4)
            costs = [[rolls.between(1, 9) for other in range(days)] for day in range(days)]
            losing = False
            for length in range(2, days + 1):
                for ring in itertools.permutations(range(days), length):
                    shares = [Fraction(costs[day][following], costs[day][day]) for day, following in rounds(ring)]
                    losing = losing or math.prod(shares) < 1
            kinds.append(self.assert_answered(Steady, book_of_costs(costs))[0])
            self.assertEqual(kinds[-1], "ring" if losing else "taste")
        self.assertGreater(kinds.count("taste"), 30)
        self.assertGreater(kinds.count("ring"), 30)


class SumsTest(KindCase):
    def test_made_by_sums(self):
        rolls = Rolls(84)
        for wares in range(1, 7):
            for days in range(1, 9):
                for most in [1, 9, HIGHEST_AMOUNT]:
                    worths = [rolls.between(1, 10 ** 8) for ware in range(wares)]
                    self.assert_explained(Sums, sums_book(rolls, days, worths, most))

    def test_two_wares_bought_together_fix_their_worths(self):
        told = self.assert_explained(Sums, (((6, 4, 9), (1, 1, 0)),))
        self.assertEqual(Fraction(*told[1][0]) / Fraction(*told[1][1]), Fraction(3, 2))
        told = self.assert_explained(Sums, (((6, 4, 9), (1, 1, 0)), ((8, 5, 10), (0, 7, 7))))
        worths = [Fraction(*share) for share in told[1]]
        self.assertEqual([worth / worths[1] for worth in worths], [Fraction(3, 2), 1, 2])

    def test_wares_never_bought_have_worths_too(self):
        told = self.assert_explained(Sums, (((2, 3, 5), (1, 0, 0)), ((4, 4, 1), (1, 0, 0))))
        worths = [Fraction(*share) for share in told[1]]
        self.assertLessEqual(worths[1], worths[0])
        self.assertLessEqual(worths[2], worths[0] / 4)
        for ware in range(6):
            book = (((HIGHEST_PRICE,) * 6, tuple([int(own == ware) for own in range(6)])),)
            self.assertEqual(len(self.assert_explained(Sums, book)[1]), 6)

    def test_a_ware_never_bought_makes_no_ring(self):
        # Ware 2 is cheap one day and dear on the other, but nobody buys it.
        self.assert_explained(Sums, (((1, 1, 9), (1, 1, 0)), ((9, 9, 1), (1, 1, 0))))

    def test_the_day_beside_the_ware_is_one_on_which_it_was_bought(self):
        book = (
            ((1, 9), (1, 0)),
            ((9, 1), (0, 1)),
            ((5, 4), (0, 1)),
            ((4, 5), (3, 0)),
            ((2, 3), (0, 1)),
            ((7, 6), (1, 0)),
        )
        told = self.assert_not_explained(Sums, book)
        self.assertEqual(sorted(told[1]), [(0, 5), (1, 4)])
        # Without those two days nothing is lost.
        self.assert_explained(Sums, book[:4])

    def test_the_tightest_of_several_days_counts(self):
        rows = [((10, 7), (1, 0)), ((10, 6), (1, 0)), ((10, 8), (1, 0))]
        for order in itertools.permutations(rows):
            self.assert_explained(Sums, order + (((100, 60), (0, 1)),))
            told = self.assert_not_explained(Sums, order + (((100, 61), (0, 1)),))
            self.assertEqual(sorted(told[1]), [(0, order.index(rows[1])), (1, 3)])

    def test_the_prices_around_just_as_much_and_one_less(self):
        for around in range(2, 7):
            prices = [[HIGHEST_PRICE for ware in range(around)] for day in range(around)]
            for day in range(around):
                prices[day][day] = 600
                prices[day][(day + 1) % around] = 600
            prices[0][1 % around] = 400
            prices[1][2 % around] = 900
            told = self.assert_explained(Sums, book_of_costs(prices))
            self.assertEqual(Fraction(*told[1][1]) / Fraction(*told[1][0]), Fraction(2, 3))
            prices[1][2 % around] = 899
            told = self.assert_not_explained(Sums, book_of_costs(prices))
            place = told[1].index((0, 0))
            self.assertEqual(told[1][place:] + told[1][:place], [(day, day) for day in range(around)])

    def test_one_piece_of_a_ware_more(self):
        # Whether a ware was bought is all that counts, not how much of it.
        book = (((2, 3), (5, 0)), ((3, 2), (0, 5)))
        self.assert_explained(Sums, book)
        self.assert_explained(Sums, one_more(book, 0, 0))
        self.assert_explained(Sums, one_more(book, 0, 1))
        self.assert_not_explained(Sums, one_more(one_more(book, 0, 1), 1, 0))

    def test_small_books_against_all_rings(self):
        rolls = Rolls(85)
        kinds = []
        for turn in range(300):
            book = rolls.book(rolls.between(1, 3), rolls.between(1, 4), 5, 1)
            losing = False
            wares, days = range(len(book[0][0])), range(len(book))
            for length in range(2, len(wares) + 1):
                for ring in itertools.permutations(wares, length):
                    rates = []
                    for ware, following in rounds(ring):
                        rates.append(min([Fraction(book[day][0][following], book[day][0][ware]) for day in days
                                          if book[day][1][ware] > 0], default=math.inf))
                    losing = losing or math.prod(rates) < 1
            kinds.append(self.assert_answered(Sums, book)[0])
            self.assertEqual(kinds[-1], "ring" if losing else "taste")
        self.assertGreater(kinds.count("taste"), 30)
        self.assertGreater(kinds.count("ring"), 30)


class MixTest(KindCase):
    def test_made_by_a_mix(self):
        rolls = Rolls(86)
        for wares in range(1, 7):
            for days in range(1, 9):
                for most in [1, 9, 10 ** 17]:
                    mix = [rolls.below(4) for ware in range(wares)]
                    mix[rolls.below(wares)] = 1
                    told = self.assert_explained(Mix, mix_book(rolls, days, mix, HIGHEST_PRICE, most))
                    self.assertEqual(told, ("taste", tuple(mix)))

    def test_no_int_divides_all(self):
        for amounts, mix in [
            ((6, 9), (2, 3)), ((4, 6, 9), (4, 6, 9)), ((0, 8), (0, 1)), ((8, 0), (1, 0)), ((5,), (1,)),
            ((0, 12, 18, 0, 30, 6), (0, 2, 3, 0, 5, 1)), ((HIGHEST_AMOUNT,) * 6, (1,) * 6), ((1, 2), (1, 2)),
        ]:
            book = (((1,) * len(mix), amounts),)
            self.assertEqual(self.assert_explained(Mix, book), ("taste", mix))
            self.assertEqual(self.assert_explained(Mix, book + (((7,) * len(mix), mix),)), ("taste", mix))

    def test_one_piece_of_a_ware_more(self):
        rolls = Rolls(87)
        for mix in [(1, 1), (2, 3, 0), (0, 0, 7), (5, 0, 1, 0, 0, 4)]:
            book = mix_book(rolls, 8, mix, 9, 10 ** 17)
            for day in range(8):
                for ware in range(len(mix)):
                    changed = one_more(book, day, ware)
                    # Of a mix of one ware alone, one piece of that ware more is no other mix.
                    if mix == (0, 0, 7) and ware == 2:
                        self.assert_explained(Mix, changed)
                    else:
                        told = self.assert_not_explained(Mix, changed)
                        self.assertIn(day, told[1][:2])

    def test_a_piece_of_a_ware_that_the_mix_lacks(self):
        for one, other in [
            ((1, 0), (0, 1)), ((1, 0), (1, 1)), ((1, 1), (1, 0)), ((0, 3, 0), (0, 3, 1)), ((2, 2, 1), (2, 2, 0)),
        ]:
            self.assert_not_explained(Mix, (((1,) * len(one), one), ((1,) * len(one), other)))


class PartsTest(KindCase):
    def test_made_by_parts(self):
        rolls = Rolls(88)
        for wares in range(1, 7):
            for days in range(1, 9):
                for most in [1, 9, 10 ** 10]:
                    parts = [rolls.below(4) for ware in range(wares)]
                    parts[rolls.below(wares)] = 1
                    told = self.assert_explained(Parts, parts_book(rolls, days, parts, most))
                    wanted = [Fraction(part, sum(parts)) for part in parts]
                    self.assertEqual([Fraction(*part) for part in told[1]], wanted)

    def test_written_out(self):
        book = (((2, 3, 5), (6, 4, 0)), ((1, 6, 1), (6, 1, 0)))
        self.assertEqual(self.assert_explained(Parts, book), ("taste", [(1, 2), (1, 2), (0, 1)]))
        self.assertEqual(self.assert_explained(Parts, (((7,), (3,)), ((4,), (9,)))), ("taste", [(1, 1)]))
        self.assertEqual(self.assert_explained(Parts, (((7, 1), (0, 3)),)), ("taste", [(0, 1), (1, 1)]))
        self.assertEqual(self.assert_explained(Parts, (((2, 4), (1, 1)),)), ("taste", [(1, 3), (2, 3)]))

    def test_one_piece_of_a_ware_more(self):
        rolls = Rolls(89)
        for parts in [(1, 1), (2, 3, 0), (5, 0, 1, 0, 0, 4)]:
            book = parts_book(rolls, 8, parts, 10 ** 10)
            for day in range(8):
                for ware in range(len(parts)):
                    told = self.assert_not_explained(Parts, one_more(book, day, ware))
                    self.assertIn(day, told[1][:2])

    def test_a_ware_that_only_one_day_bought(self):
        for one, other in [((1, 0), (0, 1)), ((1, 0), (1, 1)), ((1, 1), (1, 0)), ((0, 3, 0), (0, 3, 1))]:
            self.assert_not_explained(Parts, (((1,) * len(one), one), ((1,) * len(one), other)))

    def test_shares_with_the_same_tops_and_other_bottoms(self):
        # A half, a third and a sixth, and three thirds.
        self.assert_not_explained(Parts, (((1, 1, 1), (3, 2, 1)), ((1, 1, 1), (1, 1, 1))))
        self.assert_not_explained(Parts, (((5, 5, 5), (1, 1, 1)), ((7, 7, 7), (1, 2, 3))))

    def test_the_greatest_purses(self):
        most = ((HIGHEST_PRICE,) * 6, (HIGHEST_AMOUNT,) * 6)
        self.assertEqual(self.assert_explained(Parts, (most,) * 8)[1], [(1, 6)] * 6)
        for ware in range(6):
            self.assert_not_explained(Parts, with_amount((most,) * 8, 7, ware, HIGHEST_AMOUNT - 1))


class TotalTest(KindCase):
    def test_each_ware_bought_has_the_lowest_price(self):
        for book in [
            (((3, 3, 4), (1, 1, 0)),),
            (((3, 3, 4), (1, 1, 0)), ((2, 1, 1), (0, 0, 5))),
            (((HIGHEST_PRICE,) * 6, (HIGHEST_AMOUNT,) * 6),) * 8,
            (((HIGHEST_PRICE, HIGHEST_PRICE - 1), (0, 1)),),
        ]:
            self.assertEqual(self.assert_explained(Total, book), ("taste",))

    def test_one_ware_too_dear(self):
        self.assertEqual(self.assert_not_explained(Total, (((3, 2), (1, 0)),)), ("but", (0, 0, 1)))
        self.assertEqual(self.assert_not_explained(Total, (((3, 4), (1, 1)),)), ("but", (0, 1, 0)))
        book = (((3, 3), (1, 1)), ((2, 2), (0, 1)), ((HIGHEST_PRICE - 1, HIGHEST_PRICE), (5, 1)))
        self.assertEqual(self.assert_not_explained(Total, book), ("but", (2, 1, 0)))

    def test_one_piece_of_a_ware_more(self):
        prices = (4, 7, 4, 5, 4, 6)
        book = ((prices, (1, 0, 0, 0, 9, 0)),) * 8
        for day in range(8):
            for ware in range(6):
                changed = one_more(book, day, ware)
                if prices[ware] == 4:
                    self.assert_explained(Total, changed)
                else:
                    self.assertEqual(self.assert_not_explained(Total, changed)[1][:2], (day, ware))

    def test_which_kinds_the_total_alone_does_not_bring(self):
        book = (((1, 1), (0, 1)), ((2, 3), (3, 0)))
        self.assertEqual(self.assert_all_answered(book), [Kind, Steady, Sums, Total])


class AskedAgainTest(unittest.TestCase):
    def books(self):
        rolls = Rolls(91)
        books = [book for names, book in WRITTEN_OUT] + [UNEXPLAINED, octagon((3,)), row_of_eight(range(8))]
        return books + [rolls.book(8, 6, 9, 9) for turn in range(5)]

    def test_what_is_told_may_be_changed(self):
        for book in self.books():
            for kind in [Kind] + SIX:
                asked = kind(book)
                kept = repr(asked.answer())
                explains = asked.explains()
                for told in asked.answer()[1:]:
                    if isinstance(told, list):
                        told[0] = 99
                        told.append(-7)
                self.assertEqual(repr(asked.answer()), kept)
                self.assertEqual(repr(kind(book).answer()), kept)
                self.assertIs(asked.explains(), explains)

    def test_no_later_call_alters_what_was_told(self):
        for book in self.books():
            for kind in [Kind] + SIX:
                asked = kind(book)
                first = asked.answer()
                kept = repr(first)
                for told in asked.answer()[1:] + kind(book).answer()[1:]:
                    if isinstance(told, list):
                        told.clear()
                asked.explains()
                self.assertEqual(repr(first), kept)


if __name__ == "__main__":
    unittest.main()
