"""Numbers that keep to a table of gaps or of rates, or a ring of rows that loses."""

from tastesbook.amounts import share_of


def sum_of(number, gap):
    return number + gap


def is_less(number, other):
    return number < other


# Brought to lowest terms only when it is told: that takes longer than all else.
def product_of(share, rate):
    return (share[0] * rate[0], share[1] * rate[1])


def is_less_share(share, other):
    return share[0] * other[1] < other[0] * share[1]


# A walk is a tuple (value, rows): the rows that were walked, and what the
# entries between them come to.
def longer_walks(table, walks, joined, is_below):
    best = list(walks)
    for row, walk in enumerate(walks):
        for column, entry in enumerate(table[row]):
            if entry is not None:
                value = joined(walk[0], entry)
                if is_below(value, best[column][0]):
                    best[column] = (value, walk[1] + [column])
    return best


def ring_within(rows):
    places = {}
    for place, row in enumerate(rows):
        if row in places:
            return rows[places[row]:place]
        places[row] = place
    return None


def ring_among(walks):
    for walk in walks:
        ring = ring_within(walk[1])
        if ring is not None:
            return ring
    return None


# A walk is kept only where it comes to less than every shorter one to its row.
# So where it comes back to a row, what lies between loses: without that it would
# be shorter and come to no more. A walk that still grows in the last round has
# more rows than the table, so it comes back; where none does, nothing grows.
def answer_of(table, start, joined, is_below):
    walks = [(start, [row]) for row in range(len(table))]
    for turn in range(len(table)):
        walks = longer_walks(table, walks, joined, is_below)
        ring = ring_among(walks)
        if ring is not None:
            return ("ring", ring)
    return ("numbers", [walk[0] for walk in walks])


def numbers(table):
    return answer_of(table, 0, sum_of, is_less)


def rates(table):
    told = answer_of(table, (1, 1), product_of, is_less_share)
    if told[0] == "ring":
        return told
    return ("numbers", [share_of(share[0], share[1]) for share in told[1]])
