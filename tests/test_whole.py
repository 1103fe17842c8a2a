"""The whole program, from texts to answers."""

import ast
import itertools
import pathlib
import unittest

import tastesbook
from samples import Rolls, book_of_marks, has_ring, octagon, plain_marks, row_of_eight, some_marks
from tastesbook.bars import bars
from tastesbook.desk import Desk
from tastesbook.errors import NoName, NoRow, NoText, TasteError
from tastesbook.leaving import fewest
from tastesbook.ledger import Ledger
from tastesbook.texts import read_day, shown_day

NAMES = ["we", "th", "fr", "sa", "so", "mo", "di", "mi"]
# What explains a book by the first kind explains it by the second one, too.
WIDER = [("total", "sums"), ("sums", "steady"), ("mix", "steady"), ("parts", "steady")]
KINDS = ["money", "steady", "sums", "mix", "parts", "total"]


def rows_of(book):
    return ["put " + name + " " + shown_day(*day) for name, day in zip(NAMES, book)]


def desk_told(rows):
    desk = Desk()
    for row in rows:
        desk.say(row)
    return desk


def alike(desk):
    """What does not depend on the order in which days are told."""
    told = [desk.say(row) for row in ["cut"] + ["kind " + word for word in KINDS]]
    told.append(desk.say("taste").split(" ")[0])
    told.append(len(names_in(desk.say("leave"))))
    told.append(desk.say("hands") == "-")
    names = sorted(names_in(desk.say("days")))
    told += [desk.say(word + " " + name + " " + other) for word in ["cost", "better"] for name in names
             for other in names]
    return told


def names_in(answer):
    return [] if answer == "-" else answer.split(" ")


def books():
    rolls = Rolls(261)
    told = [octagon(), octagon((3,)), octagon(range(8)), row_of_eight(), row_of_eight((1, 4))]
    told += [book_of_marks(some_marks(rolls, days, sparse)) for days in [2, 3, 4, 5, 6] for sparse in [1, 2, 3, 5]]
    told += [rolls.book(days, wares, 9, 9) for days in range(1, 9) for wares in range(1, 7)]
    return told


class OrderTest(unittest.TestCase):
    def test_days_told_in_different_orders_are_answered_alike(self):
        rolls = Rolls(262)
        for book in books():
            rows = rows_of(book)
            told = alike(desk_told(rows))
            for turn in range(3):
                order = sorted(rows, key=lambda row: rolls.below(1000))
                self.assertEqual(alike(desk_told(order)), told)

    def test_all_orders_of_four_days(self):
        rolls = Rolls(263)
        for book in [rolls.book(4, 2, 9, 9), book_of_marks(some_marks(rolls, 4, 2)), octagon((1,))[:4]]:
            told = alike(desk_told(rows_of(book)))
            for order in itertools.permutations(rows_of(book)):
                self.assertEqual(alike(desk_told(order)), told)

    def test_days_that_come_and_go_between(self):
        rolls = Rolls(264)
        for book in books():
            desk = Desk()
            told = [alike(desk_told(rows_of(book[:many + 1]))) for many in range(len(book))]
            for many, row in enumerate(rows_of(book)):
                desk.say("put passing " + shown_day(*rolls.book(1, len(book[0][0]), 9, 9)[0]))
                desk.say("taste")
                desk.say("take passing")
                desk.say(row)
                self.assertEqual(alike(desk), told[many])


class AnswersTest(unittest.TestCase):
    def test_a_ring_is_one_by_what_its_days_tell(self):
        rings = 0
        for book in books():
            desk = desk_told(rows_of(book))
            words = desk.say("taste").split(" ")
            self.assertEqual(words[0] == "ring", has_ring(plain_marks(book)))
            if words[0] == "ring":
                ring = words[1:]
                self.assertGreater(len(ring), 1)
                self.assertEqual(len(set(ring)), len(ring))
                steps = [desk.say("better " + name + " " + following) for name, following in zip(ring, ring[1:] + ring)]
                self.assertNotIn("no", steps)
                self.assertIn("better", steps)
                rings += 1
        self.assertGreater(rings, 10)

    def test_wider_kinds_explain_what_narrower_ones_do(self):
        for book in books():
            desk = desk_told(rows_of(book))
            for narrow, wide in WIDER:
                if desk.say("kind " + narrow) == "yes":
                    self.assertEqual(desk.say("kind " + wide), "yes")
            for word in KINDS:
                if desk.say("kind " + word) == "yes":
                    self.assertEqual(desk.say("taste"), "yes")

    def test_the_days_to_be_left_out_are_enough_and_no_fewer_are(self):
        for book in books():
            desk = desk_told(rows_of(book))
            leave = names_in(desk.say("leave"))
            for name in leave:
                self.assertTrue(desk.say("taste").startswith("ring "))
                desk.say("take " + name)
            self.assertEqual(desk.say("taste"), "yes")
            if 0 < len(leave) < 4:
                for gone in itertools.combinations(NAMES[:len(book)], len(leave) - 1):
                    desk = desk_told(rows_of(book))
                    for name in gone:
                        desk.say("take " + name)
                    self.assertNotEqual(desk.say("taste"), "yes")

    def test_each_of_two_hands_is_explained(self):
        shared = []
        for book in books():
            hand = names_in(desk_told(rows_of(book)).say("hands"))
            shared.append(len(hand) > 0)
            if hand:
                self.assertEqual(hand[0], NAMES[0])
                for keeps in [True, False]:
                    desk = desk_told(rows_of(book))
                    for name in NAMES[:len(book)]:
                        if (name in hand) != keeps:
                            desk.say("take " + name)
                    if desk.say("days") != "-":
                        self.assertEqual(desk.say("taste"), "yes")
        self.assertIn(True, shared)
        self.assertIn(False, shared)

    def test_a_purchase_that_comes_breaks_the_book_just_within_a_bar(self):
        rolls = Rolls(265)
        broken = []
        for book in books():
            if len(book) < 8 and not has_ring(plain_marks(book)):
                prices, shape = rolls.book(1, len(book[0][0]), 9, 2)[0]
                told = bars(book, prices, shape)
                for times in range(1, 13):
                    desk = desk_told(rows_of(book))
                    desk.say("put fresh " + shown_day(prices, [times * amount for amount in shape]))
                    within = any([low[0] <= times * low[1] and times * high[1] <= high[0] for low, high in told])
                    self.assertEqual(desk.say("taste") == "yes", not within)
                    broken.append(within)
        self.assertGreater(broken.count(True), 10)
        self.assertGreater(broken.count(False), 10)

    def test_a_ledger_and_a_desk_tell_the_same(self):
        for book in books():
            desk, ledger = Desk(), Ledger()
            for row, name in zip(rows_of(book), NAMES):
                desk.say(row)
                ledger.put(name, *read_day(row.split(" ", 2)[2]))
            self.assertEqual(ledger.book(), book)
            self.assertEqual(names_in(desk.say("days")), ledger.names())
            self.assertEqual(names_in(desk.say("leave")), ledger.fewest())
            self.assertEqual(names_in(desk.say("leave")), [NAMES[day] for day in fewest(book)])
            self.assertEqual(names_in(desk.say("hands")), ledger.two_hands() or [])


class TextsOfTheProgramTest(unittest.TestCase):
    def test_the_sign_with_number_37_is_in_none(self):
        files = list(pathlib.Path(tastesbook.__file__).parent.glob("*.py"))
        self.assertGreater(len(files), 12)
        for file in files:
            for node in ast.walk(ast.parse(file.read_text())):
                if isinstance(node, ast.Constant) and isinstance(node.value, str):
                    self.assertNotIn(chr(37), node.value)

    def test_nor_in_an_errors_own_words(self):
        sign = chr(37)
        desk = Desk()
        for error, row in [(NoRow, sign), (NoRow, "kind " + sign), (NoName, "take " + sign), (NoText, "put a " + sign)]:
            with self.assertRaises(TasteError) as caught:
                desk.say(row)
            self.assertIs(type(caught.exception), error)
            self.assertNotIn(sign, str(caught.exception))


if __name__ == "__main__":
    unittest.main()
