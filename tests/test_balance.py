import itertools
import math
import unittest
from fractions import Fraction

from samples import Rolls
from tastesbook.balance import numbers, rates

MOST = 10 ** 60 - 1


def losing_rings(table, start, joined):
    """All rings of rows that come to less than start, each from its least row on."""
    rows = range(len(table))
    found = []
    for length in range(1, len(table) + 1):
        for ring in itertools.permutations(rows, length):
            entries = [table[row][following] for row, following in zip(ring, ring[1:] + ring[:1])]
            if ring[0] == min(ring) and None not in entries:
                value = start
                for entry in entries:
                    value = joined(value, entry)
                if value < start:
                    found.append(list(ring))
    return found


def losing_gaps(table):
    return losing_rings(table, 0, lambda value, gap: value + gap)


def losing_rates(table):
    return losing_rings(table, Fraction(1), lambda value, rate: value * Fraction(rate[0], rate[1]))


def ring_table(order, entries, rows):
    """A table of None but from each in the order to the next, and from the last to the first."""
    table = [[None] * rows for row in range(rows)]
    for place, row in enumerate(order):
        table[row][order[(place + 1) % len(order)]] = entries[place]
    return tuple([tuple(row) for row in table])


class BalanceCase(unittest.TestCase):
    def assert_ring_of_rows(self, table, ring):
        self.assertIs(type(ring), list)
        self.assertGreaterEqual(len(ring), 1)
        self.assertEqual(len(set(ring)), len(ring))
        for row in ring:
            self.assertIs(type(row), int)
            self.assertIn(row, range(len(table)))
        entries = [table[row][following] for row, following in zip(ring, ring[1:] + ring[:1])]
        self.assertNotIn(None, entries)
        return entries

    def assert_form(self, told):
        self.assertIs(type(told), tuple)
        self.assertEqual(len(told), 2)
        self.assertIn(told[0], ["numbers", "ring"])
        self.assertIs(type(told[1]), list)

    def assert_gaps_answered(self, table):
        before = tuple([tuple(row) for row in table])
        told = numbers(table)
        self.assertEqual(table, before)
        self.assert_form(told)
        if told[0] == "ring":
            self.assertLess(sum(self.assert_ring_of_rows(table, told[1])), 0)
        else:
            self.assertEqual(len(told[1]), len(table))
            for number in told[1]:
                self.assertIs(type(number), int)
            for row, gaps in enumerate(table):
                for column, gap in enumerate(gaps):
                    if gap is not None:
                        self.assertLessEqual(told[1][column], told[1][row] + gap)
        self.assertEqual(numbers(table), told)
        return told

    def assert_rates_answered(self, table):
        before = tuple([tuple(row) for row in table])
        told = rates(table)
        self.assertEqual(table, before)
        self.assert_form(told)
        if told[0] == "ring":
            ratios = [Fraction(rate[0], rate[1]) for rate in self.assert_ring_of_rows(table, told[1])]
            self.assertLess(math.prod(ratios), 1)
        else:
            self.assertEqual(len(told[1]), len(table))
            for share in told[1]:
                self.assert_share(share)
            self.assert_shares_hold(table, told[1])
        self.assertEqual(rates(table), told)
        return told

    def assert_share(self, share):
        self.assertIs(type(share), tuple)
        self.assertEqual(len(share), 2)
        for number in share:
            self.assertIs(type(number), int)
            self.assertGreaterEqual(number, 1)
        self.assertEqual(math.gcd(share[0], share[1]), 1)

    def assert_shares_hold(self, table, shares):
        for row, row_rates in enumerate(table):
            for column, rate in enumerate(row_rates):
                if rate is not None:
                    left = shares[column][0] * shares[row][1] * rate[1]
                    right = shares[row][0] * rate[0] * shares[column][1]
                    self.assertLessEqual(left, right)


class NumbersTest(BalanceCase):
    def test_one_row(self):
        for gap in [None, 0, 1, 37, MOST]:
            self.assertEqual(self.assert_gaps_answered(((gap,),))[0], "numbers")
        for gap in [-1, -37, -MOST]:
            self.assertEqual(self.assert_gaps_answered(((gap,),)), ("ring", [0]))

    def test_none_everywhere(self):
        for rows in range(1, 9):
            self.assertEqual(self.assert_gaps_answered(((None,) * rows,) * rows)[0], "numbers")

    def test_the_column_is_bound_by_the_row(self):
        # The other way round these numbers would have to rise where they fall.
        told = self.assert_gaps_answered(((None, -5), (5, None)))
        self.assertEqual(told[0], "numbers")
        self.assertEqual(told[1][1] - told[1][0], -5)

    def test_gaps_of_nothing_and_none_are_not_the_same(self):
        told = self.assert_gaps_answered(((None, 0, -7), (None, None, None), (None, None, None)))
        self.assertEqual(told[0], "numbers")
        told = self.assert_gaps_answered(((None, 0), (-1, None)))
        self.assertEqual((told[0], sorted(told[1])), ("ring", [0, 1]))

    def test_a_losing_ring_of_one_row_among_eight(self):
        for loser in range(8):
            table = [[3] * 8 for row in range(8)]
            table[loser][loser] = -1
            table = tuple([tuple(row) for row in table])
            self.assertEqual(self.assert_gaps_answered(table), ("ring", [loser]))
            self.assertEqual(self.assert_gaps_answered(ring_table([loser], [-MOST], 8)), ("ring", [loser]))

    def test_the_one_losing_ring_of_each_length(self):
        rolls = Rolls(5)
        for length in range(1, 9):
            for turn in range(6):
                order = sorted(range(8), key=lambda row: rolls.below(1000))[:length]
                gaps = [rolls.between(-MOST, MOST) for row in order]
                for total, kind in [(-1, "ring"), (0, "numbers"), (1, "numbers")]:
                    gaps[0] = total - sum(gaps[1:])
                    told = self.assert_gaps_answered(ring_table(order, gaps, 8))
                    self.assertEqual(told[0], kind)
                    if kind == "ring":
                        self.assertEqual(sorted(told[1]), sorted(order))

    def test_a_row_of_eight_in_each_direction(self):
        for order in [list(range(8)), list(range(7, -1, -1)), [3, 0, 7, 5, 1, 6, 2, 4]]:
            table = [list(row) for row in ring_table(order, [-MOST] * 8, 8)]
            table[order[-1]][order[0]] = 7 * MOST
            told = self.assert_gaps_answered(tuple([tuple(row) for row in table]))
            self.assertEqual(told[0], "numbers")
            self.assertEqual(told[1][order[0]] - told[1][order[-1]], 7 * MOST)
            table[order[-1]][order[0]] = 7 * MOST - 1
            told = self.assert_gaps_answered(tuple([tuple(row) for row in table]))
            self.assertEqual((told[0], sorted(told[1])), ("ring", list(range(8))))

    def test_small_tables_against_all_rings(self):
        rolls = Rolls(21)
        kinds = []
        for turn in range(1500):
            rows = rolls.between(1, 4)
            low = rolls.between(-3, 0)
            table = tuple([tuple([None if rolls.below(3) == 0 else rolls.between(low, 4) for column in range(rows)])
                           for row in range(rows)])
            told = self.assert_gaps_answered(table)
            self.assertEqual(told[0], "ring" if losing_gaps(table) else "numbers")
            kinds.append(told[0])
        self.assertGreater(kinds.count("ring"), 200)
        self.assertGreater(kinds.count("numbers"), 200)

    def test_eight_rows(self):
        rolls = Rolls(22)
        for low in [-1, -3, -10, -40, -100, -MOST]:
            for sparse in [1, 2, 4]:
                for turn in range(8):
                    table = tuple([tuple([rolls.between(low, 100 + MOST * (low == -MOST))
                                          if rolls.below(sparse) == 0 else None for column in range(8)])
                                   for row in range(8)])
                    self.assert_gaps_answered(table)

    def test_gaps_of_sixty_figures_that_numbers_bear(self):
        rolls = Rolls(23)
        for rows in [2, 5, 8]:
            own = [rolls.between(-MOST // 3, MOST // 3) for row in range(rows)]
            table = [[own[column] - own[row] for column in range(rows)] for row in range(rows)]
            told = self.assert_gaps_answered(tuple([tuple(row) for row in table]))
            self.assertEqual(told[0], "numbers")
            self.assertEqual([number - told[1][0] for number in told[1]], [number - own[0] for number in own])
            # One less in one place loses against the way back, though a float would not see it.
            table[1][0] -= 1
            self.assertEqual(self.assert_gaps_answered(tuple([tuple(row) for row in table]))[0], "ring")

    def test_what_is_told_may_be_changed(self):
        for table in [((None, 4), (-3, None)), ((None, 2), (-3, None)), ((-1,),), ((None,),)]:
            told = numbers(table)
            kept = list(told[1])
            told[1].append(5)
            told[1][0] = 999
            self.assertEqual(numbers(table), (told[0], kept))
            self.assertIsNot(numbers(table)[1], numbers(table)[1])

    def test_somewhat_beyond_the_bounds_nothing_is_refused(self):
        table = ring_table(list(range(10)), [10 ** 70] * 9 + [-9 * 10 ** 70], 10)
        self.assertEqual(self.assert_gaps_answered(table)[0], "numbers")
        table = ring_table(list(range(10)), [10 ** 70] * 9 + [-9 * 10 ** 70 - 1], 10)
        self.assertEqual(self.assert_gaps_answered(table)[0], "ring")


class RatesTest(BalanceCase):
    def share(self, rolls, most):
        ratio = Fraction(rolls.between(1, most), rolls.between(1, most))
        return (ratio.numerator, ratio.denominator)

    def test_one_row(self):
        for rate in [None, (1, 1), (2, 1), (3, 2), (MOST, 1), (MOST, MOST - 1)]:
            self.assertEqual(self.assert_rates_answered(((rate,),))[0], "numbers")
        for rate in [(1, 2), (2, 3), (1, MOST), (MOST - 1, MOST)]:
            self.assertEqual(self.assert_rates_answered(((rate,),)), ("ring", [0]))

    def test_none_everywhere(self):
        for rows in range(1, 9):
            self.assertEqual(self.assert_rates_answered(((None,) * rows,) * rows)[0], "numbers")

    def test_the_column_is_bound_by_the_row(self):
        told = self.assert_rates_answered(((None, (2, 3)), ((3, 2), None)))
        self.assertEqual(told[0], "numbers")
        self.assertEqual(Fraction(*told[1][1]) / Fraction(*told[1][0]), Fraction(2, 3))

    def test_lowest_terms(self):
        # Along the row tops and bottoms cancel one another.
        table = (
            (None, (2, 3), None, None),
            (None, None, (3, 4), None),
            (None, None, None, (6, 7)),
            ((7, 3), None, None, None),
        )
        told = self.assert_rates_answered(table)
        self.assertEqual(told[0], "numbers")
        self.assertEqual([Fraction(*share) / Fraction(*told[1][0]) for share in told[1]],
                         [1, Fraction(2, 3), Fraction(1, 2), Fraction(3, 7)])

    def test_a_losing_ring_of_one_row_among_eight(self):
        for loser in range(8):
            table = [[(3, 2)] * 8 for row in range(8)]
            table[loser][loser] = (MOST - 1, MOST)
            table = tuple([tuple(row) for row in table])
            self.assertEqual(self.assert_rates_answered(table), ("ring", [loser]))
            self.assertEqual(self.assert_rates_answered(ring_table([loser], [(1, MOST)], 8)), ("ring", [loser]))

    def test_the_one_losing_ring_of_each_length(self):
        rolls = Rolls(6)
        for length in range(2, 9):
            for turn in range(4):
                order = sorted(range(8), key=lambda row: rolls.below(1000))[:length]
                parts = [rolls.between(10 ** 58, 10 ** 59) for row in order]
                told = [Fraction(parts[place], parts[place - 1]) for place in range(length)]
                less = Fraction(MOST - 1, MOST)
                for factor, kind in [(less, "ring"), (1, "numbers"), (1 / less, "numbers")]:
                    ratios = [told[0] * factor] + told[1:]
                    table = ring_table(order, [(ratio.numerator, ratio.denominator) for ratio in ratios], 8)
                    answer = self.assert_rates_answered(table)
                    self.assertEqual(answer[0], kind)
                    if kind == "ring":
                        self.assertEqual(sorted(answer[1]), sorted(order))

    def test_small_tables_against_all_rings(self):
        rolls = Rolls(31)
        kinds = []
        for turn in range(800):
            rows = rolls.between(1, 4)
            table = tuple([tuple([None if rolls.below(2) == 0 else self.share(rolls, 4) for column in range(rows)])
                           for row in range(rows)])
            told = self.assert_rates_answered(table)
            self.assertEqual(told[0], "ring" if losing_rates(table) else "numbers")
            kinds.append(told[0])
        self.assertGreater(kinds.count("ring"), 100)
        self.assertGreater(kinds.count("numbers"), 100)

    def test_eight_rows_of_sixty_figures(self):
        rolls = Rolls(32)
        for sparse in [1, 3, 6]:
            for turn in range(6):
                table = tuple([tuple([self.share(rolls, MOST) if rolls.below(sparse) == 0 else None
                                      for column in range(8)]) for row in range(8)])
                self.assert_rates_answered(table)

    def test_rates_of_sixty_figures_that_shares_bear(self):
        rolls = Rolls(33)
        for rows in [2, 5, 8]:
            own = [rolls.between(10 ** 58, 10 ** 59) for row in range(rows)]
            table = [[Fraction(own[column], own[row]) for column in range(rows)] for row in range(rows)]
            told = self.assert_rates_answered(self.table_of(table))
            self.assertEqual(told[0], "numbers")
            ratios = [Fraction(*share) / Fraction(*told[1][0]) for share in told[1]]
            self.assertEqual(ratios, [Fraction(number, own[0]) for number in own])
            # A little less in one place loses against the way back.
            table[1][0] = Fraction(table[1][0].numerator * 10 - 1, table[1][0].denominator * 10)
            self.assertEqual(self.assert_rates_answered(self.table_of(table))[0], "ring")

    def table_of(self, table):
        return tuple([tuple([(ratio.numerator, ratio.denominator) for ratio in row]) for row in table])

    def test_a_row_of_eight_with_the_least_rates(self):
        table = ring_table(list(range(8)), [(1, MOST)] * 7 + [None], 8)
        told = self.assert_rates_answered(table)
        self.assertEqual(told[0], "numbers")
        self.assertLessEqual(Fraction(*told[1][7]) / Fraction(*told[1][0]), Fraction(1, MOST ** 7))
        table = ring_table(list(range(8)), [(MOST, 1)] * 7 + [(1, MOST)], 8)
        self.assertEqual(self.assert_rates_answered(table)[0], "numbers")

    def test_what_is_told_may_be_changed(self):
        for table in [((None, (4, 1)), ((1, 3), None)), ((None, (2, 1)), ((1, 3), None)), (((1, 2),),), ((None,),)]:
            told = rates(table)
            kept = list(told[1])
            told[1].append(5)
            told[1][0] = 999
            self.assertEqual(rates(table), (told[0], kept))
            self.assertIsNot(rates(table)[1], rates(table)[1])

    def test_somewhat_beyond_the_bounds_nothing_is_refused(self):
        table = ring_table(list(range(10)), [(10 ** 70, 1)] * 5 + [(1, 10 ** 70)] * 5, 10)
        self.assertEqual(self.assert_rates_answered(table)[0], "numbers")


if __name__ == "__main__":
    unittest.main()
