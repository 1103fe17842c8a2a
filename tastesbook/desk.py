"""A desk, which is told rows of words and answers each by a text."""

from tastesbook.errors import NoRow
from tastesbook.kinds import Mix, Money, Parts, Steady, Sums, Total
from tastesbook.ledger import Ledger, check_name
from tastesbook.telling import AS_GOOD, BETTER
from tastesbook.texts import read_day, shown_share

NOTHING = "-"


def listed(names):
    if len(names) == 0:
        return NOTHING
    return " ".join(names)


def shown_names(ledger):
    return listed(ledger.names())


def shown_taste(ledger):
    told = ledger.taste()
    if told[0] == "ring":
        return " ".join(["ring"] + told[1])
    return "yes"


def shown_cut(ledger):
    told = ledger.cut()
    return " ".join([shown_share(told[0]), "enough" if told[1] else "below"])


def shown_fewest(ledger):
    return listed(ledger.fewest())


def shown_hands(ledger):
    names = ledger.two_hands()
    if names is None:
        return NOTHING
    return listed(names)


def take_day(ledger, name):
    ledger.take(name)
    return "ok"


def by_money(book):
    return Money(book).explains()


def by_steady(book):
    return Steady(book).explains()


def by_sums(book):
    return Sums(book).explains()


def by_mix(book):
    return Mix(book).explains()


def by_parts(book):
    return Parts(book).explains()


def by_total(book):
    return Total(book).explains()


KINDS = {
    "money": by_money,
    "steady": by_steady,
    "sums": by_sums,
    "mix": by_mix,
    "parts": by_parts,
    "total": by_total,
}


def shown_kind(ledger, word):
    if word not in KINDS:
        raise NoRow("there is no such kind")
    return "yes" if KINDS[word](ledger.book()) else "no"


# A name that is none goes ahead of a text that is none, and both go ahead of what
# the ledger refuses beside the name; so the name is looked at here as well.
def put_day(ledger, name, text):
    check_name(name)
    day = read_day(text)
    ledger.put(name, day[0], day[1])
    return "ok"


def shown_cost(ledger, name, other):
    return str(ledger.cost(name, other))


def shown_mark(ledger, name, other):
    mark = ledger.at_once(name, other)
    if mark == BETTER:
        return "better"
    if mark == AS_GOOD:
        return "as good"
    return "no"


ALONE = {
    "days": shown_names,
    "taste": shown_taste,
    "cut": shown_cut,
    "leave": shown_fewest,
    "hands": shown_hands,
}
WITH_ONE = {
    "take": take_day,
    "kind": shown_kind,
}
WITH_TWO = {
    "put": put_day,
    "cost": shown_cost,
    "better": shown_mark,
}


# A day has blanks of its own, so behind the name in put nothing is parted.
def words_of(row):
    if row.startswith("put "):
        return row.split(" ", 2)
    return row.split(" ")


class Desk:
    def __init__(self):
        self.ledger = Ledger()

    def say(self, row):
        words = words_of(row)
        first = words[0]
        if len(words) == 1 and first in ALONE:
            return ALONE[first](self.ledger)
        if len(words) == 2 and first in WITH_ONE:
            return WITH_ONE[first](self.ledger, words[1])
        if len(words) == 3 and first in WITH_TWO:
            return WITH_TWO[first](self.ledger, words[1], words[2])
        raise NoRow("there is no such row")
