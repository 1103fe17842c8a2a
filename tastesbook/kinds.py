"""Kinds of tastes, and whether one of a kind explains a book."""

from tastesbook.amounts import greatest_divisor, share_of
from tastesbook.balance import is_less_share, numbers, rates
from tastesbook.days import purse, shares_of
from tastesbook.tastes import gaps_of, taste_of


class Kind:
    def __init__(self, book):
        self.purchases = book

    def answer(self):
        return taste_of(self.purchases)

    def explains(self):
        return self.answer()[0] == "taste"


# A table is answered by numbers, which are the worths of a taste here.
def taste_by_table(told):
    if told[0] == "ring":
        return told
    return ("taste", told[1])


class Money(Kind):
    def answer(self):
        return taste_by_table(numbers(gaps_of(self.purchases, (1, 1))))


class Steady(Kind):
    def answer(self):
        return taste_by_table(rates(shares_of(self.purchases)))


def wares_of(book):
    return len(book[0][0])


def was_bought(book, day, ware):
    return book[day][1][ware] > 0


def price_share(book, day, ware, other):
    prices = book[day][0]
    return share_of(prices[other], prices[ware])


def is_tighter(book, day, tightest, ware, other):
    if tightest is None:
        return True
    return is_less_share(price_share(book, day, ware, other), price_share(book, tightest, ware, other))


# Of all days on which the ware was bought, the one that bounds the other's worth
# the most: by that one the others are kept to as well.
def tightest_day(book, ware, other):
    tightest = None
    for day in range(len(book)):
        if was_bought(book, day, ware) and is_tighter(book, day, tightest, ware, other):
            tightest = day
    return tightest


def tightest_rate(book, ware, other):
    day = tightest_day(book, ware, other)
    if day is None:
        return None
    return price_share(book, day, ware, other)


def rates_from(book, ware):
    return tuple([tightest_rate(book, ware, other) for other in range(wares_of(book))])


def pairs_of(book, ring):
    pairs = []
    for ware, following in zip(ring, ring[1:] + ring[:1]):
        pairs.append((ware, tightest_day(book, ware, following)))
    return pairs


class Sums(Kind):
    def answer(self):
        book = self.purchases
        told = rates(tuple([rates_from(book, ware) for ware in range(wares_of(book))]))
        if told[0] == "ring":
            return ("ring", pairs_of(book, told[1]))
        return taste_by_table(told)


def least_terms(amounts):
    divisor = 0
    for amount in amounts:
        divisor = greatest_divisor(divisor, amount)
    return tuple([amount // divisor for amount in amounts])


# Two days go by one mix where each two wares are in them as one to the other.
def wares_apart(amounts, others):
    for ware in range(len(amounts)):
        for another in range(ware):
            if amounts[ware] * others[another] != amounts[another] * others[ware]:
                return (ware, another)
    return None


class Mix(Kind):
    # Each day has bought something, so days that go by one mix with the first go
    # by one mix with each other.
    def answer(self):
        first = self.purchases[0][1]
        for other, day in enumerate(self.purchases):
            apart = wares_apart(first, day[1])
            if apart is not None:
                return ("but", (0, other, apart[0], apart[1]))
        return ("taste", least_terms(first))


def part_of(book, day, ware):
    spent = book[day][0][ware] * book[day][1][ware]
    # No share has 0 above, so this one is written out.
    if spent == 0:
        return (0, 1)
    return share_of(spent, purse(book, day))


def parts_of(book, day):
    return [part_of(book, day, ware) for ware in range(wares_of(book))]


class Parts(Kind):
    def answer(self):
        parts = parts_of(self.purchases, 0)
        for other in range(len(self.purchases)):
            for ware, part in enumerate(parts_of(self.purchases, other)):
                if part != parts[ware]:
                    return ("but", (0, other, ware))
        return ("taste", parts)


class Total(Kind):
    def answer(self):
        for day, bought in enumerate(self.purchases):
            prices = bought[0]
            cheapest = prices.index(min(prices))
            for ware, price in enumerate(prices):
                if was_bought(self.purchases, day, ware) and price > prices[cheapest]:
                    return ("but", (day, ware, cheapest))
        return ("taste",)
