"""Days and books, and what the amounts of a day cost."""

from tastesbook.amounts import is_int, share_of
from tastesbook.errors import NoBook, NoDay

MOST_DAYS = 8
MOST_WARES = 6
HIGHEST_PRICE = 1_000_000_000
HIGHEST_AMOUNT = 1_000_000_000_000_000_000


def is_tuple(thing, shortest, longest):
    return isinstance(thing, tuple) and shortest <= len(thing) <= longest


def is_price(thing):
    return is_int(thing) and 1 <= thing <= HIGHEST_PRICE


def is_amount(thing):
    return is_int(thing) and 0 <= thing <= HIGHEST_AMOUNT


def are_prices(thing):
    return is_tuple(thing, 1, MOST_WARES) and all([is_price(price) for price in thing])


def are_amounts(thing):
    if not is_tuple(thing, 1, MOST_WARES) or not all([is_amount(amount) for amount in thing]):
        return False
    return any([amount > 0 for amount in thing])


def is_day(thing):
    if not is_tuple(thing, 2, 2):
        return False
    prices = thing[0]
    amounts = thing[1]
    return are_prices(prices) and are_amounts(amounts) and len(prices) == len(amounts)


def is_book(thing):
    if not is_tuple(thing, 1, MOST_DAYS) or not all([is_day(day) for day in thing]):
        return False
    wares = len(thing[0][0])
    return all([len(day[0]) == wares for day in thing])


# The words of both refusals leave out what was handed in: it may be anything,
# also a number of more figures than Python is willing to write.
def check(thing):
    if not is_book(thing):
        raise NoBook("this is no book")
    return True


# Python would take a number below 0 as one counted from the book's end.
def check_day(book, day):
    if not 0 <= day < len(book):
        raise NoDay("the book has no day of this number")


def cost_at(prices, amounts):
    return sum([price * amount for price, amount in zip(prices, amounts)])


def cost(book, day, other):
    check_day(book, day)
    check_day(book, other)
    return cost_at(book[day][0], book[other][1])


def purse(book, day):
    return cost(book, day, day)


def shares_from(book, day):
    return tuple([share_of(cost(book, day, other), purse(book, day)) for other in range(len(book))])


# Row by row, for each day: what each day's amounts cost at its prices, as a
# share of its purse.
def shares_of(book):
    return tuple([shares_from(book, day) for day in range(len(book))])
