"""Books for the tests, and what their days tell, found without the program."""

HIGHEST_PRICE = 10 ** 9
HIGHEST_AMOUNT = 10 ** 18

# The corners of an octagon, one after another around it.
CORNERS = [(1, 0), (2, 0), (3, 1), (3, 2), (2, 3), (1, 3), (0, 2), (0, 1)]


class Rolls:
    """Numbers without a visible order, the same ones on each run."""

    def __init__(self, seed):
        self.state = seed

    def below(self, bound):
        number = 0
        for step in range(8):
            self.state = (self.state * 6364136223846793005 + 1442695040888963407) % 2 ** 64
            number = number * 2 ** 32 + (self.state >> 32)
        return number % bound

    def between(self, low, high):
        return low + self.below(high - low + 1)

    def book(self, days, wares, price, amount):
        told = []
        for day in range(days):
            prices = tuple([self.between(1, price) for ware in range(wares)])
            amounts = [self.between(0, amount) for ware in range(wares)]
            amounts[self.below(wares)] = self.between(1, amount)
            told.append((prices, tuple(amounts)))
        return tuple(told)


def highest_book(rolls, days):
    """Numbers near both bounds, so that costs lie far apart and hard by one another."""
    def price():
        return rolls.between(1, 3) if rolls.below(2) else HIGHEST_PRICE - rolls.below(3)

    def amount():
        return rolls.below(3) if rolls.below(2) else HIGHEST_AMOUNT - rolls.below(3)

    book = []
    for day in range(days):
        amounts = (amount(), amount(), amount(), amount(), amount(), 1 + amount() // 2)
        book.append((tuple([price() for ware in range(6)]), amounts))
    return tuple(book)


def shuffled(rolls, book):
    """The same days in another order."""
    order = sorted(range(len(book)), key=lambda day: rolls.below(1000))
    return tuple([book[day] for day in order])


def book_of_costs(costs):
    """A book of up to six days in which costs[day][other] is the cost: each day buys one piece of its own ware."""
    days = len(costs)
    return tuple([(tuple(costs[day]), tuple([int(ware == day) for ware in range(days)])) for day in range(days)])


def book_of_marks(marks):
    """A book of up to six days that tell at once what marks[day][other] says."""
    return book_of_costs([[7 - mark for mark in row] for row in marks])


def mark_tables(days):
    """All tables of what so many days may tell of one another."""
    free = [(day, other) for day in range(days) for other in range(days) if day != other]
    for number in range(3 ** len(free)):
        marks = [[1] * days for day in range(days)]
        for day, other in free:
            marks[day][other] = number % 3
            number //= 3
        yield marks


def some_marks(rolls, days, sparse):
    """A table in which a day tells something of one in so many others."""
    return [[1 if day == other else max(0, rolls.below(2 * sparse) - 2 * sparse + 3) for other in range(days)]
            for day in range(days)]


def row_of_eight(better=()):
    """Each of eight days tells itself as good as the next one, those in better better, and nothing else."""
    book = []
    one, two = 0, 100
    for day in range(8):
        # The amounts lie on a bent line, the prices square to the way to the next ones.
        book.append((((8 - day) * 1000, (day + 1) * 1000 + (day in better)), (one, two)))
        one += day + 1
        two -= 8 - day
    return tuple(book)


def octagon(better=()):
    """As row_of_eight, but the last day tells itself as good as the first one, too."""
    book = []
    for day, corner in enumerate(CORNERS):
        following = CORNERS[(day + 1) % 8]
        over, up = following[0] - corner[0], following[1] - corner[1]
        less = int(day in better)
        prices = (5000 - 1000 * up - less * over, 5000 + 1000 * over - less * up, 5000)
        book.append((prices, (corner[0], corner[1], 6 - corner[0] - corner[1])))
    return tuple(book)


def plain_cost(book, day, other):
    prices, amounts = book[day][0], book[other][1]
    return sum([prices[ware] * amounts[ware] for ware in range(len(prices))])


def plain_marks(book, share=(1, 1)):
    """What each day tells of each, with purses cut by the share."""
    top, bottom = share
    marks = []
    for day in range(len(book)):
        left = top * plain_cost(book, day, day)
        row = []
        for other in range(len(book)):
            wanted = bottom * plain_cost(book, day, other)
            row.append(1 if day == other else 2 if wanted < left else 1 if wanted == left else 0)
        marks.append(row)
    return marks


def closure(marks):
    """Which days reach which: 2 where a step on the way is better, else 1, or 0."""
    days = range(len(marks))
    told = [list(row) for row in marks]
    # The first time finds who reaches whom, which the second one needs for better steps.
    for turn in range(2):
        for middle in days:
            for day in days:
                for other in days:
                    if told[day][middle] and told[middle][other]:
                        told[day][other] = max(told[day][other], told[day][middle], told[middle][other])
    return told


def has_ring(marks):
    told = closure(marks)
    return any([told[day][day] == 2 for day in range(len(marks))])
