import itertools
import unittest

from samples import HIGHEST_AMOUNT, HIGHEST_PRICE, Rolls, book_of_marks, octagon, row_of_eight, some_marks
from tastesbook.cuts import cut
from tastesbook.errors import NoBook, NoName, TasteError, Twice
from tastesbook.leaving import fewest, two_hands
from tastesbook.ledger import Ledger
from tastesbook.tastes import taste_of
from tastesbook.telling import at_once, reached

DAYS = (
    ((1, 2), (3, 1)),
    ((2, 1), (0, 2)),
    ((1, 1), (2, 4)),
    ((5, 7), (1, 1)),
)
RINGING = (((2, 1), (1, 0)), ((1, 2), (0, 1)))
# Neither in the order of the letters nor in that of their lengths.
NAMES = ["mo", "di", "z", "aaaaaaaa", "letters", "b", "quitelon", "ab"]
NO_NAMES = [
    "", " ", "abcdefghi", "aaaaaaaaa", "a" * 1000, "A", "Ab", "aB", "ABC", "monDay", "1", "a1", "1a", "0", "a b", " a",
    "a ", "a\n", "\na", "a\t", "a-b", "a_b", "_", "-", "a.", "a,b", "\u00e4", "a\u00e4", "\u00df", "\u00e9", "\u0431",
    "\u03b1", "\uff41", "\u0131", "\u00aa", "\u02b0", "\ufb00", "a\u0301", "a\0", "\U0001d41a",
]
SHARES = [None, (1, 1), (1, 2), (2, 3), (9, 10), (1, 10 ** 59), (10 ** 59 - 1, 10 ** 59)]
# What is no day, whatever stands in the ledger: prices and amounts.
NO_DAYS = [
    ((1, 2), (0, 0)), ((0, 1), (1, 1)), ((1, 2), (-1, 1)), ((1, 2), (1,)), ((1,), (1, 2)), ((), ()),
    ((1,) * 7, (1,) * 7), ((HIGHEST_PRICE + 1, 1), (1, 1)), ((1, 1), (HIGHEST_AMOUNT + 1, 1)), ((True, 1), (1, 1)),
    ((1, 1), (True, 1)), ((1, 1), (1, False)), ([1, 1], (1, 1)), ((1, 1), [1, 1]), (None, None), (1, 1), ("12", "12"),
    ((1, 1), None), (None, (1, 1)), ((1.0, 1), (1, 1)), ((1, 1), (1.0, 1)), ((1, "1"), (1, 1)), ({}, {}),
    (range(1, 3), range(1, 3)), ((None, 1), (1, 1)), (((1, 1),), ((1, 1),)), (object(), len), (float("nan"), 1j),
    ((1, 1), (10 ** 5000, 1)), ((1, 1), {0: 1, 1: 1}), ((1, 1), iter((1, 1))), (b"12", b"12"),
]


def ledger_of(book, names=NAMES):
    ledger = Ledger()
    for name, (prices, amounts) in zip(names, book):
        ledger.put(name, prices, amounts)
    return ledger


def named(days, names=NAMES):
    return None if days is None else [names[day] for day in days]


def answers_of(ledger):
    """All that a ledger with days tells."""
    names = ledger.names()
    told = [names, ledger.book(), ledger.cut(), ledger.fewest(), ledger.two_hands()]
    told += [ledger.taste(share) for share in SHARES]
    told += [ledger.reached(name) for name in names]
    told += [ledger.at_once(name, other) for name in names for other in names]
    return told


def books():
    rolls = Rolls(241)
    told = [DAYS[:1], DAYS, RINGING, RINGING * 4, octagon(), octagon((3,)), row_of_eight((2, 5))]
    told += [book_of_marks(some_marks(rolls, days, sparse)) for days in [3, 4, 5, 6] for sparse in [1, 2, 4]]
    told += [rolls.book(days, 2, 9, 9) for days in range(1, 9)]
    told.append(rolls.book(8, 6, HIGHEST_PRICE, HIGHEST_AMOUNT))
    return told


class LedgerCase(unittest.TestCase):
    def assert_refused(self, error, asked, *given):
        with self.assertRaises(TasteError) as caught:
            asked(*given)
        self.assertIs(type(caught.exception), error)


class PutTest(LedgerCase):
    def test_nothing_is_told(self):
        ledger = Ledger()
        self.assertIsNone(ledger.put("a", (1,), (1,)))
        self.assertIsNone(ledger.take("a"))

    def test_names_and_book_in_the_order_of_putting_in(self):
        ledger = Ledger()
        for many, name in enumerate(NAMES):
            ledger.put(name, *octagon()[many])
            self.assertEqual(ledger.names(), NAMES[:many + 1])
            self.assertEqual(ledger.book(), octagon()[:many + 1])
            self.assertIs(type(ledger.names()), list)
            self.assertIs(type(ledger.book()), tuple)

    def test_all_letters(self):
        letters = "abcdefghijklmnopqrstuvwxyz"
        for start in range(0, 24, 8):
            ledger = Ledger()
            for letter in letters[start:start + 8]:
                ledger.put(letter, (1,), (1,))
            self.assertEqual(ledger.names(), list(letters[start:start + 8]))
        for length in range(1, 9):
            ledger = Ledger()
            ledger.put(letters[-length:], (1,), (1,))
            self.assertEqual(ledger.names(), [letters[-length:]])

    def test_equal_days_by_different_names(self):
        ledger = Ledger()
        for name in NAMES:
            ledger.put(name, *DAYS[0])
        self.assertEqual(ledger.book(), (DAYS[0],) * 8)
        ledger.take("z")
        self.assertEqual(ledger.names(), ["mo", "di", "aaaaaaaa", "letters", "b", "quitelon", "ab"])

    def test_names_that_are_none(self):
        for book in [(), DAYS[:1], DAYS, octagon()]:
            ledger = ledger_of(book)
            for name in NO_NAMES:
                with self.subTest(name=name):
                    self.assert_refused(NoName, ledger.put, name, *DAYS[0])
                    self.assertEqual(ledger.names(), NAMES[:len(book)])

    def test_a_name_that_stands(self):
        ledger = ledger_of(DAYS)
        for name in NAMES[:4]:
            for day in DAYS:
                self.assert_refused(Twice, ledger.put, name, *day)
        self.assertEqual(ledger.names(), NAMES[:4])
        self.assertEqual(ledger.book(), DAYS)
        ledger.put(NAMES[4], *DAYS[0])

    def test_no_day_of_its_own(self):
        for book in [(), DAYS[:1], DAYS]:
            ledger = ledger_of(book)
            for place, (prices, amounts) in enumerate(NO_DAYS):
                with self.subTest(place=place):
                    self.assert_refused(NoBook, ledger.put, "fresh", prices, amounts)
                    self.assertEqual(ledger.names(), NAMES[:len(book)])

    def test_a_day_of_other_wares(self):
        for wares in range(1, 7):
            ledger = Ledger()
            ledger.put("a", (1,) * wares, (1,) * wares)
            for others in range(1, 7):
                if others != wares:
                    self.assert_refused(NoBook, ledger.put, "b", (1,) * others, (1,) * others)
            self.assertEqual(ledger.names(), ["a"])
            ledger.put("b", (1,) * wares, (1,) * wares)

    def test_the_ninth_day(self):
        ledger = ledger_of(octagon())
        for day in octagon():
            self.assert_refused(NoBook, ledger.put, "ninth", *day)
        self.assertEqual(ledger.names(), NAMES)
        self.assertEqual(ledger.book(), octagon())
        ledger.take("b")
        ledger.put("ninth", *octagon()[0])
        self.assertEqual(len(ledger.book()), 8)
        self.assert_refused(NoBook, ledger.put, "b", *octagon()[0])

    def test_the_refusal_that_is_named_first(self):
        full = ledger_of(octagon())
        for ledger in [full, ledger_of(DAYS), Ledger()]:
            for name in ["", "A", "abcdefghi"]:
                for prices, amounts in NO_DAYS + [((1,), (1,)), octagon()[0], DAYS[0]]:
                    self.assert_refused(NoName, ledger.put, name, prices, amounts)
        for ledger in [full, ledger_of(DAYS)]:
            for prices, amounts in NO_DAYS + [((1,), (1,)), octagon()[0], DAYS[0]]:
                self.assert_refused(Twice, ledger.put, "di", prices, amounts)

    def test_the_greatest_day(self):
        most = ((HIGHEST_PRICE,) * 6, (HIGHEST_AMOUNT,) * 6)
        ledger = ledger_of((most,) * 8)
        self.assertEqual(ledger.book(), (most,) * 8)
        self.assertEqual(ledger.taste()[0], "taste")

    def test_what_is_refused_changes_nothing(self):
        for book in [DAYS, octagon((2,)), RINGING]:
            ledger = ledger_of(book)
            before = answers_of(ledger_of(book))
            for name, prices, amounts in [("A", *book[0]), ("mo", *book[1]), ("mo", None, None), ("fresh", (1,), (1,)),
                                          ("fresh", (0,) * len(book[0][0]), book[0][1]), ("fresh", None, None)]:
                with self.assertRaises(TasteError):
                    ledger.put(name, prices, amounts)
            for name in ["", "fresh", "A"]:
                self.assert_refused(NoName, ledger.take, name)
            self.assertEqual(answers_of(ledger), before)

    def test_by_its_arguments_names(self):
        ledger = Ledger()
        ledger.put(name="a", prices=(1, 2), amounts=(3, 4))
        ledger.put(name="b", prices=(2, 1), amounts=(0, 4))
        self.assertEqual(ledger.book(), (((1, 2), (3, 4)), ((2, 1), (0, 4))))
        self.assertEqual(ledger.at_once(name="a", other="b"), at_once(ledger.book(), 0, 1))
        self.assertEqual(ledger.reached(name="a"), ["a", "b"])
        self.assertEqual(ledger.taste(share=(1, 2)), taste_of(ledger.book(), (1, 2)))
        ledger.take(name="a")
        self.assertEqual(ledger.names(), ["b"])


class TakeTest(LedgerCase):
    def test_a_name_that_does_not_stand(self):
        for book in [(), DAYS[:1], DAYS]:
            ledger = ledger_of(book)
            for name in NO_NAMES + NAMES[len(book):] + ["fresh", "m", "moo", "MO"]:
                self.assert_refused(NoName, ledger.take, name)
            self.assertEqual(ledger.names(), NAMES[:len(book)])

    def test_a_name_that_was_taken_out_stands_no_longer(self):
        ledger = ledger_of(DAYS)
        ledger.take("di")
        for asked in [ledger.take, ledger.reached]:
            self.assert_refused(NoName, asked, "di")
        self.assert_refused(NoName, ledger.at_once, "mo", "di")
        self.assert_refused(NoName, ledger.at_once, "di", "mo")

    def test_each_day_of_each_place(self):
        for name in NAMES:
            ledger = ledger_of(octagon())
            ledger.take(name)
            left = [other for other in range(8) if NAMES[other] != name]
            self.assertEqual(ledger.names(), [NAMES[other] for other in left])
            self.assertEqual(ledger.book(), tuple([octagon()[other] for other in left]))

    def test_put_in_again_it_stands_at_the_end(self):
        ledger = ledger_of(DAYS)
        ledger.take("mo")
        ledger.put("mo", *DAYS[0])
        self.assertEqual(ledger.names(), ["di", "z", "aaaaaaaa", "mo"])
        self.assertEqual(ledger.book(), DAYS[1:] + DAYS[:1])
        self.assertEqual(ledger.reached("z"), named(reached(ledger.book(), 1), ledger.names()))
        ledger.take("di")
        ledger.put("di", *DAYS[3])
        self.assertEqual(ledger.names(), ["z", "aaaaaaaa", "mo", "di"])
        self.assertEqual(ledger.book()[-1], DAYS[3])

    def test_a_day_taken_out_again_leaves_nothing_behind(self):
        rolls = Rolls(242)
        for book in books():
            if len(book) < 8:
                before = answers_of(ledger_of(book))
                ledger = ledger_of(book)
                for turn in range(3):
                    ledger.put("fresh", *rolls.book(1, len(book[0][0]), 9, 9)[0])
                    answers_of(ledger)
                    ledger.take("fresh")
                    self.assertEqual(answers_of(ledger), before)

    def test_as_if_it_had_never_been_put_in(self):
        for book in [DAYS, octagon((3,)), RINGING * 3]:
            for gone in range(len(book)):
                ledger = ledger_of(book)
                ledger.take(NAMES[gone])
                left = [day for day in range(len(book)) if day != gone]
                fresh = ledger_of([book[day] for day in left], named(left))
                self.assertEqual(answers_of(ledger), answers_of(fresh))

    def test_behind_the_taking_of_all_days_other_wares_may_come(self):
        for order in [NAMES[:4], NAMES[:4][::-1]]:
            ledger = ledger_of(DAYS)
            for name in order:
                self.assert_refused(NoBook, ledger.put, "fresh", (1, 1, 1), (1, 1, 1))
                ledger.take(name)
            self.assertEqual(ledger.names(), [])
            ledger.put("fresh", (1, 1, 1), (1, 1, 1))
            ledger.put("mo", (1, 2, 3), (4, 5, 6))
            self.assertEqual(ledger.book(), (((1, 1, 1), (1, 1, 1)), ((1, 2, 3), (4, 5, 6))))
            self.assert_refused(NoBook, ledger.put, "di", *DAYS[1])


class EmptyTest(LedgerCase):
    def assert_empty(self, ledger):
        self.assertEqual(ledger.names(), [])
        for asked in [ledger.book, ledger.taste, ledger.cut, ledger.fewest, ledger.two_hands]:
            self.assert_refused(NoBook, asked)
        for share in SHARES:
            self.assert_refused(NoBook, ledger.taste, share)
        for name in ["mo", "fresh", "", "A"]:
            self.assert_refused(NoName, ledger.take, name)
            self.assert_refused(NoName, ledger.reached, name)
            self.assert_refused(NoName, ledger.at_once, name, "di")
            self.assert_refused(NoName, ledger.at_once, name, name)

    def test_without_days(self):
        self.assert_empty(Ledger())

    def test_behind_the_taking_of_all_days(self):
        ledger = ledger_of(DAYS)
        for name in NAMES[:4]:
            ledger.take(name)
        self.assert_empty(ledger)

    def test_behind_refusals_alone(self):
        ledger = Ledger()
        for name, prices, amounts in [("A", (1,), (1,)), ("a", None, None), ("a", (1,), (0,))]:
            with self.assertRaises(TasteError):
                ledger.put(name, prices, amounts)
        self.assert_empty(ledger)


class ToldTest(LedgerCase):
    def test_written_out(self):
        ledger = ledger_of(DAYS[:3])
        self.assertEqual(ledger.at_once("mo", "di"), 2)
        self.assertEqual(ledger.at_once("di", "mo"), 0)
        self.assertEqual(ledger.at_once("z", "z"), 1)
        self.assertEqual(ledger.reached("mo"), ["mo", "di"])
        self.assertEqual(ledger.reached("z"), ["mo", "di", "z"])
        self.assertEqual(ledger.taste()[0], "taste")
        self.assertEqual(ledger.cut(), ((1, 1), True))
        self.assertEqual(ledger.fewest(), [])
        ledger = ledger_of(RINGING)
        self.assertEqual(ledger.taste()[0], "ring")
        self.assertEqual(sorted(ledger.taste()[1]), ["di", "mo"])
        self.assertEqual(ledger.taste((1, 2))[0], "taste")
        self.assertEqual(ledger.cut(), ((1, 2), True))
        self.assertEqual(ledger.fewest(), ["mo"])
        self.assertEqual(ledger.two_hands(), ["mo"])

    def test_as_the_functions_tell(self):
        seen = {}
        for book in books():
            ledger = ledger_of(book)
            days = range(len(book))
            for day in days:
                self.assertEqual(ledger.reached(NAMES[day]), named(reached(book, day)))
                for other in days:
                    self.assertEqual(ledger.at_once(NAMES[day], NAMES[other]), at_once(book, day, other))
            for share in SHARES:
                told = taste_of(book, share)
                if told[0] == "ring":
                    told = ("ring", named(told[1]))
                self.assertEqual(ledger.taste(share), told)
                seen[(share, told[0])] = True
            self.assertEqual(ledger.taste(), ledger.taste(None))
            self.assertEqual(ledger.taste(), ledger.taste((1, 1)))
            self.assertEqual(ledger.cut(), cut(book))
            self.assertEqual(ledger.fewest(), named(fewest(book)))
            self.assertEqual(ledger.two_hands(), named(two_hands(book)))
            seen[two_hands(book) is None] = True
        for kind in [(None, "ring"), (None, "taste"), ((2, 3), "ring"), ((2, 3), "taste"), True, False]:
            self.assertIn(kind, seen)

    def test_reached_in_the_order_of_putting_in(self):
        for order in itertools.permutations(range(3)):
            ledger = Ledger()
            for day in order:
                ledger.put(NAMES[day], *DAYS[day])
            self.assertEqual(ledger.reached("z"), [NAMES[day] for day in order])
            self.assertEqual(ledger.reached("mo"), [NAMES[day] for day in order if day != 2])

    def test_what_the_order_does_not_alter(self):
        rolls = Rolls(243)
        for book in books():
            before = ledger_of(book)
            for turn in range(3):
                order = sorted(range(len(book)), key=lambda day: rolls.below(1000))
                ledger = ledger_of([book[day] for day in order], named(order))
                for share in SHARES:
                    self.assertEqual(ledger.taste(share)[0], before.taste(share)[0])
                self.assertEqual(ledger.cut(), before.cut())
                self.assertEqual(len(ledger.fewest()), len(before.fewest()))
                self.assertEqual(ledger.two_hands() is None, before.two_hands() is None)
                for name in before.names():
                    self.assertEqual(sorted(ledger.reached(name)), sorted(before.reached(name)))

    def test_names_that_do_not_stand(self):
        ledger = ledger_of(DAYS)
        for name in ["fresh", "letters", "m", "", "A", "a b", "\u00e4"]:
            self.assert_refused(NoName, ledger.reached, name)
            self.assert_refused(NoName, ledger.at_once, name, "mo")
            self.assert_refused(NoName, ledger.at_once, "mo", name)
            self.assert_refused(NoName, ledger.at_once, name, name)

    def test_what_is_told_may_be_changed(self):
        for book in [DAYS, RINGING, octagon((1,))]:
            ledger = ledger_of(book)
            before = answers_of(ledger_of(book))
            lists = [ledger.names(), ledger.fewest(), ledger.two_hands(), ledger.reached("mo")]
            lists += [numbers for share in SHARES for numbers in ledger.taste(share)[1:]]
            for told in lists:
                told.append("fresh")
                told.reverse()
                told[-1] = 5
            self.assertEqual(answers_of(ledger), before)

    def test_no_later_call_alters_what_was_told(self):
        ledger = ledger_of(DAYS)
        names, days, reach, taste = ledger.names(), ledger.book(), ledger.reached("z"), ledger.taste()
        kept = [list(names), list(days), list(reach), [list(numbers) for numbers in taste[1:]]]
        for name in NAMES[4:]:
            ledger.put(name, *DAYS[0])
            answers_of(ledger)
        for name in NAMES:
            ledger.take(name)
        self.assertEqual([names, list(days), reach, [list(numbers) for numbers in taste[1:]]], kept)

    def test_asked_again(self):
        for book in books():
            ledger = ledger_of(book)
            first = answers_of(ledger)
            self.assertEqual(answers_of(ledger), first)
            self.assertEqual(answers_of(ledger_of(book)), first)

    def test_two_ledgers_know_nothing_of_one_another(self):
        one, other = Ledger(), Ledger()
        one.put("a", (1,), (1,))
        self.assertEqual(other.names(), [])
        other.put("a", (1, 2), (3, 4))
        other.put("b", (1, 2), (3, 4))
        one.take("a")
        self.assertEqual(other.names(), ["a", "b"])


if __name__ == "__main__":
    unittest.main()
