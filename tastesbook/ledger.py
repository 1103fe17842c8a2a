"""A ledger, which keeps days by names."""

from tastesbook.cuts import cut
from tastesbook.days import check, cost
from tastesbook.errors import NoBook, NoName, Twice
from tastesbook.leaving import fewest, two_hands
from tastesbook.tastes import taste_of
from tastesbook.telling import at_once, reached

LETTERS = "abcdefghijklmnopqrstuvwxyz"
LONGEST_NAME = 8


def is_name(text):
    return 1 <= len(text) <= LONGEST_NAME and all([letter in LETTERS for letter in text])


def check_name(text):
    if not is_name(text):
        raise NoName("a name is one to eight small letters")


class Ledger:
    # The days by their names, in the order in which they were put in.
    def __init__(self):
        self.kept = {}

    def put(self, name, prices, amounts):
        check_name(name)
        if name in self.kept:
            raise Twice("a day of this name stands")
        day = (prices, amounts)
        check(tuple(self.kept.values()) + (day,))
        self.kept[name] = day

    def take(self, name):
        self.check_standing(name)
        self.kept.pop(name)

    def check_standing(self, name):
        if name not in self.kept:
            raise NoName("no day of this name stands")

    def names(self):
        return list(self.kept)

    def book(self):
        if len(self.kept) == 0:
            raise NoBook("the ledger has no days")
        return tuple(self.kept.values())

    def number_of(self, name):
        self.check_standing(name)
        return self.names().index(name)

    def names_of(self, days):
        standing = self.names()
        return [standing[day] for day in days]

    # Here and below names are looked up first, as NoName goes ahead of NoBook.
    def cost(self, name, other):
        day = self.number_of(name)
        another = self.number_of(other)
        return cost(self.book(), day, another)

    def at_once(self, name, other):
        day = self.number_of(name)
        another = self.number_of(other)
        return at_once(self.book(), day, another)

    def reached(self, name):
        day = self.number_of(name)
        return self.names_of(reached(self.book(), day))

    def taste(self, share=None):
        told = taste_of(self.book(), share)
        if told[0] == "ring":
            return ("ring", self.names_of(told[1]))
        return told

    def cut(self):
        return cut(self.book())

    def fewest(self):
        return self.names_of(fewest(self.book()))

    def two_hands(self):
        days = two_hands(self.book())
        if days is None:
            return None
        return self.names_of(days)
