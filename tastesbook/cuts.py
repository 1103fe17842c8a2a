"""The cut: by which shares the purses of a book must be cut so that a taste explains it."""

from tastesbook.balance import is_less_share
from tastesbook.days import shares_of
from tastesbook.tastes import taste_of
from tastesbook.telling import BETTER, NEITHER, ring_in


def marks_above(row, share):
    return [NEITHER if is_less_share(share, wanted) else BETTER for wanted in row]


# By a share just above this one a day pays for another with something left, also
# where this share is just enough. For its own amounts a day wants (1, 1): as long
# as the share is below that, no day tells itself better than itself.
def has_ring_above(shares, share):
    return ring_in([marks_above(row, share) for row in shares]) is not None


# While a share sinks, a ring lasts until one of its days can't pay for the next
# one any more; so the cut is what some day's amounts cost of some day's purse.
def cut(book):
    shares = shares_of(book)
    lowest = (1, 1)
    for row in shares:
        for share in row:
            if is_less_share(share, lowest) and has_ring_above(shares, share):
                lowest = share
    return (lowest, taste_of(book, lowest)[0] == "taste")
