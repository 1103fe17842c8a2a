"""Bars: which many times of a shape, bought at some prices behind a book, no taste can bear."""

from tastesbook.amounts import share_of
from tastesbook.balance import is_less_share
from tastesbook.days import cost_at, purse
from tastesbook.errors import NoTaste
from tastesbook.tastes import taste_of
from tastesbook.telling import reached, strict_chain


# From this share on, the new day's purse pays for the day's amounts.
def share_to_pay(book, day, prices, shape):
    return share_of(cost_at(prices, book[day][1]), cost_at(prices, shape))


# Up to this share, the day's purse pays for the new day's amounts.
def share_paid_by(book, day, shape):
    return share_of(purse(book, day), cost_at(book[day][0], shape))


# The book has no ring of its own, so each ring leads from the new day to a day
# that it can pay for, on by a chain, and back from a day that can pay for it.
# Where the share may lie anywhere from low to high, one of the two steps beside
# the new day is better; where low is high, a step of the chain must be.
def closes_ring(book, day, other, low, high):
    if low == high:
        return strict_chain(book, day, other) is not None
    return is_less_share(low, high)


def lesser(share, other):
    return share if is_less_share(share, other) else other


def greater(share, other):
    return other if is_less_share(share, other) else share


# Bars that touch the new one melt into it.
def joined_with(told, low, high):
    below = [bar for bar in told if is_less_share(bar[1], low)]
    above = [bar for bar in told if is_less_share(high, bar[0])]
    least = low
    most = high
    for bar in told[len(below):len(told) - len(above)]:
        least = lesser(least, bar[0])
        most = greater(most, bar[1])
    return below + [(least, most)] + above


def bars(book, prices, shape):
    if taste_of(book)[0] == "ring":
        raise NoTaste("no taste explains the book")
    told = []
    for day in range(len(book)):
        low = share_to_pay(book, day, prices, shape)
        for other in reached(book, day):
            high = share_paid_by(book, other, shape)
            if closes_ring(book, day, other, low, high):
                told = joined_with(told, low, high)
    return told
