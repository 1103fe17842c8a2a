"""What a day tells of another one, at once and by chains of days."""

from tastesbook.days import check_day, cost, purse

NEITHER = 0
AS_GOOD = 1
BETTER = 2


# A gap is what the other's amounts cost beyond the purse.
def mark_of(gap):
    if gap < 0:
        return BETTER
    if gap == 0:
        return AS_GOOD
    return NEITHER


def at_once(book, day, other):
    check_day(book, day)
    check_day(book, other)
    return mark_of(cost(book, day, other) - purse(book, day))


def marks_from(book, day):
    return [at_once(book, day, other) for other in range(len(book))]


def marks_of(book):
    return [marks_from(book, day) for day in range(len(book))]


# Each day is met once alone, so that it comes once in each chain.
def chains_from(marks, day):
    chains = {day: [day]}
    waiting = [day]
    while len(waiting) > 0:
        last = waiting.pop(0)
        for other, mark in enumerate(marks[last]):
            if mark != NEITHER and other not in chains:
                chains[other] = chains[last] + [other]
                waiting.append(other)
    return chains


def reached(book, day):
    check_day(book, day)
    return sorted(chains_from(marks_of(book), day))


def chain(book, day, other):
    check_day(book, day)
    check_day(book, other)
    return chains_from(marks_of(book), day).get(other)


def better_steps(marks):
    steps = []
    for day, row in enumerate(marks):
        for other, mark in enumerate(row):
            if mark == BETTER:
                steps.append((day, other))
    return steps


# One chain leads to a step that tells better, one leads on from it: each has a
# day at most once, so that none comes more than twice in both.
def strict_chain(book, day, other):
    check_day(book, day)
    check_day(book, other)
    marks = marks_of(book)
    ahead = chains_from(marks, day)
    for step in better_steps(marks):
        behind = chains_from(marks, step[1])
        if step[0] in ahead and other in behind:
            return ahead[step[0]] + behind[other]
    return None


def ring_in(marks):
    for step in better_steps(marks):
        back = chains_from(marks, step[1])
        if step[0] in back:
            return back[step[0]]
    return None
