"""Whether one taste explains a book, its purses whole or cut by a share, and what amounts are worth by it."""

from tastesbook.days import cost, cost_at, purse
from tastesbook.telling import AS_GOOD, chains_from, mark_of, ring_in


# What a day's purse, cut by the share, lacks to pay for each day's amounts,
# times the share's bottom, so that it is whole.
def gaps_from(book, day, share):
    left = share[0] * purse(book, day)
    return [share[1] * cost(book, day, other) - left for other in range(len(book))]


def gaps_of(book, share):
    return [gaps_from(book, day, share) for day in range(len(book))]


def cut_mark(gaps, day, other):
    # A cut purse would not pay for the day's own amounts.
    if day == other:
        return AS_GOOD
    return mark_of(gaps[day][other])


def cut_marks_from(gaps, day):
    return [cut_mark(gaps, day, other) for other in range(len(gaps))]


def cut_marks_of(gaps):
    return [cut_marks_from(gaps, day) for day in range(len(gaps))]


def levels_of(marks):
    heights = [len(chains_from(marks, day)) for day in range(len(marks))]
    levels = []
    for height in reversed(sorted(set(heights))):
        levels.append([day for day, own in enumerate(heights) if own == height])
    return levels


def worth_below(gaps, worths, weights, level):
    most = 0
    for above in worths:
        for day in level:
            most = min(most, worths[above] + weights[above] * gaps[above][day])
    return most


def weight_below(gaps, worths, day, own):
    weight = 1
    for above in worths:
        # Rounded up: the weight times the gap must bridge the whole of it.
        weight = max(weight, -((own - worths[above]) // gaps[day][above]))
    return weight


# A day reaches all that is reached by a day that it reaches. So one that reaches
# fewer days does not reach one that reaches more, and has a gap above 0 to it:
# however low its worth must lie, some weight bridges it. Two that reach equally
# many have no gap below 0 between them, as there is no ring, and may be worth
# the same. With the levels from the top down each number is found at once, and
# from level to level it gains hardly more figures than a gap has.
def taste_by(gaps, levels):
    worths = {}
    weights = {}
    for level in levels:
        own = worth_below(gaps, worths, weights, level)
        for day in level:
            weights[day] = weight_below(gaps, worths, day, own)
        for day in level:
            worths[day] = own
    days = sorted(worths)
    return ("taste", [worths[day] for day in days], [weights[day] for day in days])


def taste_of(book, share=None):
    gaps = gaps_of(book, (1, 1) if share is None else share)
    marks = cut_marks_of(gaps)
    ring = ring_in(marks)
    if ring is not None:
        return ("ring", ring)
    return taste_by(gaps, levels_of(marks))


def worth(book, worths, weights, amounts):
    bounds = []
    for day in range(len(book)):
        gap = cost_at(book[day][0], amounts) - purse(book, day)
        bounds.append(worths[day] + weights[day] * gap)
    return min(bounds)
