"""Days left out of a book, and two hands that share one."""

from tastesbook.days import check_day
from tastesbook.errors import NoBook
from tastesbook.telling import marks_of, ring_in


def other_days(book, days):
    return [day for day in range(len(book)) if day not in days]


def without(book, days):
    for day in days:
        check_day(book, day)
    left = other_days(book, days)
    if len(left) == 0:
        raise NoBook("no day is left")
    return tuple([book[day] for day in left])


def longer_lists(lists, many):
    longer = []
    for days in lists:
        first = days[-1] + 1 if len(days) > 0 else 0
        for day in range(first, many):
            longer.append(days + [day])
    return longer


# The shorter ones first, those of one length as Python sorts them.
def rising_lists(many):
    told = []
    longest = [[]]
    while len(longest) > 0:
        told.extend(longest)
        longest = longer_lists(longest, many)
    return told


def marks_among(marks, day, days):
    return [marks[day][other] for other in days]


# What two days tell of one another stays as it is where others are left out.
def is_explained(marks, days):
    return ring_in([marks_among(marks, day, days) for day in days]) is None


# A day by itself is explained, so that the walk ends.
def fewest(book):
    marks = marks_of(book)
    lists = rising_lists(len(book))
    place = 0
    while not is_explained(marks, other_days(book, lists[place])):
        place += 1
    return lists[place]


def two_hands(book):
    marks = marks_of(book)
    for days in rising_lists(len(book)):
        if 0 in days and is_explained(marks, days) and is_explained(marks, other_days(book, days)):
            return days
    return None
