import itertools
import unittest

from samples import HIGHEST_AMOUNT, HIGHEST_PRICE, Rolls, book_of_marks, octagon, plain_cost, row_of_eight, some_marks
from tastesbook.cuts import cut
from tastesbook.desk import Desk
from tastesbook.errors import NoBook, NoName, NoRow, NoText, TasteError, Twice
from tastesbook.kinds import Mix, Money, Parts, Steady, Sums, Total
from tastesbook.leaving import fewest, two_hands
from tastesbook.tastes import taste_of
from tastesbook.telling import at_once
from tastesbook.texts import shown_day

NAMES = ["mo", "di", "z", "aaaaaaaa", "letters", "b", "quitelon", "ab"]
NO_NAMES = ["", "abcdefghi", "A", "aB", "1", "a1", "-", "a_b", "\u00e4", "\uff41", "a\n", "\ta", "puT"]
KINDS = {"money": Money, "steady": Steady, "sums": Sums, "mix": Mix, "parts": Parts, "total": Total}
DAYS = (
    ((1, 2), (3, 1)),
    ((2, 1), (0, 2)),
    ((1, 1), (2, 4)),
)
RINGING = (((2, 1), (1, 0)), ((1, 2), (0, 1)))
# All rows but put and those that name a day, and what they ask for.
QUESTIONS = ["taste", "cut", "leave", "hands"] + ["kind " + word for word in KINDS]


def desk_of(book, names=NAMES):
    desk = Desk()
    for name, (prices, amounts) in zip(names, book):
        desk.say("put " + name + " " + shown_day(prices, amounts))
    return desk


def answers_of(desk, names):
    """All that a desk with days of these names answers."""
    rows = ["days"] + QUESTIONS
    rows += [word + " " + name + " " + other for word in ["cost", "better"] for name in names for other in names]
    return [desk.say(row) for row in rows]


def words_or_dash(days, names=NAMES):
    return " ".join([names[day] for day in days]) if days else "-"


def books():
    rolls = Rolls(251)
    told = [DAYS[:1], DAYS, RINGING, RINGING * 4, octagon(), octagon((3,)), row_of_eight((2, 5)), row_of_eight()]
    told += [book_of_marks(some_marks(rolls, days, sparse)) for days in [3, 4, 5, 6] for sparse in [1, 2, 4]]
    told += [rolls.book(days, wares, 9, 9) for days in range(1, 9) for wares in [1, 2, 3]]
    told += [(((1, 2), (4, 2)), ((3, 5), (2, 1))), (((1, 2), (4, 2)), ((2, 1), (2, 4))), (((1, 1), (1, 5)),) * 2]
    told.append(rolls.book(8, 6, HIGHEST_PRICE, HIGHEST_AMOUNT))
    return told


class DeskCase(unittest.TestCase):
    def assert_refused(self, error, desk, row):
        with self.subTest(row=row):
            with self.assertRaises(TasteError) as caught:
                desk.say(row)
            self.assertIs(type(caught.exception), error)

    def assert_said(self, desk, row, answer):
        told = desk.say(row)
        self.assertIs(type(told), str)
        self.assertEqual(told, answer)


class RowsTest(DeskCase):
    def test_put_take_and_days(self):
        desk = Desk()
        self.assert_said(desk, "days", "-")
        self.assert_said(desk, "put mo 3x20 0x7", "ok")
        self.assert_said(desk, "days", "mo")
        self.assert_said(desk, "put a 1x1 1x1", "ok")
        self.assert_said(desk, "put z 0x9 5x1000000000", "ok")
        self.assert_said(desk, "days", "mo a z")
        self.assert_said(desk, "take a", "ok")
        self.assert_said(desk, "days", "mo z")
        self.assert_said(desk, "put a 1x1 1x1", "ok")
        self.assert_said(desk, "days", "mo z a")
        for name in ["a", "mo", "z"]:
            self.assert_said(desk, "take " + name, "ok")
        self.assert_said(desk, "days", "-")
        self.assert_said(desk, "put mo 1x1", "ok")

    def test_cost_and_better_written_out(self):
        desk = desk_of(DAYS)
        self.assert_said(desk, "cost mo mo", "5")
        self.assert_said(desk, "cost mo di", "4")
        self.assert_said(desk, "cost di mo", "7")
        self.assert_said(desk, "cost mo z", "10")
        self.assert_said(desk, "better mo di", "better")
        self.assert_said(desk, "better di mo", "no")
        self.assert_said(desk, "better di di", "as good")
        desk = desk_of(octagon())
        self.assert_said(desk, "better mo di", "as good")
        self.assert_said(desk, "better ab mo", "as good")
        self.assert_said(desk, "better di mo", "no")
        most = ((HIGHEST_PRICE,) * 6, (HIGHEST_AMOUNT,) * 6)
        self.assert_said(desk_of((most,)), "cost mo mo", "6" + "0" * 27)

    def test_all_else_written_out(self):
        desk = desk_of(DAYS)
        for row, answer in [("taste", "yes"), ("cut", "1/1 enough"), ("leave", "-")]:
            self.assert_said(desk, row, answer)
        desk = desk_of(RINGING)
        self.assertIn(desk.say("taste"), ["ring mo di", "ring di mo"])
        for row, answer in [("cut", "1/2 enough"), ("leave", "mo"), ("hands", "mo")]:
            self.assert_said(desk, row, answer)
        desk = desk_of(octagon((3,)))
        for row, answer in [("cut", "1/1 below"), ("leave", "mo")]:
            self.assert_said(desk, row, answer)
        self.assertEqual(sorted(desk.say("taste").split(" ")), sorted(["ring"] + NAMES))
        three = book_of_marks([[1, 2, 2], [2, 1, 2], [2, 2, 1]])
        desk = desk_of(three)
        for row, answer in [("cut", "5/6 enough"), ("leave", "mo di"), ("hands", "-")]:
            self.assert_said(desk, row, answer)

    def test_kinds_written_out(self):
        # Twice the mix (2, 1) once, at other prices; the greater day costs too much by the first one's money.
        desk = desk_of((((1, 1), (1, 1)), ((1, 2), (2, 2))))
        for word, answer in [
            ("money", "no"), ("steady", "yes"), ("sums", "no"), ("mix", "yes"), ("parts", "no"), ("total", "no"),
        ]:
            self.assert_said(desk, "kind " + word, answer)
        desk = desk_of((((1, 2), (3, 0)), ((5, 4), (0, 2))))
        for word, answer in [("sums", "yes"), ("total", "yes"), ("mix", "no"), ("parts", "no"), ("steady", "yes")]:
            self.assert_said(desk, "kind " + word, answer)
        desk = desk_of((((1, 2), (4, 2)), ((2, 1), (2, 4))))
        for word, answer in [("parts", "yes"), ("steady", "yes"), ("mix", "no"), ("total", "no")]:
            self.assert_said(desk, "kind " + word, answer)

    def test_as_the_functions_tell(self):
        seen = {}
        for book in books():
            desk = desk_of(book)
            self.assert_said(desk, "days", " ".join(NAMES[:len(book)]))
            for day, other in itertools.product(range(len(book)), repeat=2):
                both = NAMES[day] + " " + NAMES[other]
                self.assert_said(desk, "cost " + both, str(plain_cost(book, day, other)))
                self.assert_said(desk, "better " + both, ["no", "as good", "better"][at_once(book, day, other)])
            told = taste_of(book)
            self.assert_said(desk, "taste", "yes" if told[0] == "taste" else "ring " + words_or_dash(told[1]))
            share, enough = cut(book)
            self.assert_said(desk, "cut", f"{share[0]}/{share[1]} {'enough' if enough else 'below'}")
            self.assert_said(desk, "leave", words_or_dash(fewest(book)))
            self.assert_said(desk, "hands", words_or_dash(two_hands(book)))
            for word, kind in KINDS.items():
                answer = "yes" if kind(book).explains() else "no"
                self.assert_said(desk, "kind " + word, answer)
                seen[word, answer] = True
            seen[told[0]] = True
            seen["hands", desk.say("hands") == "-"] = True
        self.assertEqual(len(seen), 2 * len(KINDS) + 4)

    def test_by_its_arguments_name(self):
        self.assertEqual(Desk().say(row="days"), "-")


class NoRowTest(DeskCase):
    def assert_no_row(self, row):
        for desk in [desk_of(DAYS), Desk()]:
            self.assert_refused(NoRow, desk, row)

    def test_first_words_that_are_none(self):
        for row in ["", " ", "  ", "-", "help", "say", "names", "book", "fewest", "two_hands", "reached mo",
                    "Put mo 1x1", "PUT mo 1x1", "Days", "TAKE mo", "day", "dayss", "tastes", "putt mo 1x1 1x1",
                    "at_once mo di", "mo", "mo put 1x1 1x1", "money", "kinds money", "costs mo di", "purse mo",
                    "bars mo", "days\n", "\ndays", "days\t", "put\tmo 1x1 1x1",
                    "put\nmo 1x1 1x1", "put\u00a0mo 1x1 1x1", "taste,", "d\u00e4ys"]:
            self.assert_no_row(row)

    def test_the_number_of_words(self):
        for row in ["put", "put mo", "put ", "take", "take mo di", "take mo di z", "days mo", "days days", "cost",
                    "cost mo", "cost mo di z", "better", "better mo", "better mo di z", "taste mo", "taste 1/2",
                    "cut mo", "cut cut", "leave mo", "hands mo", "kind", "kind money sums", "kind mo di", "put fresh"]:
            self.assert_no_row(row)

    def test_blanks_at_an_end_and_two_blanks(self):
        for row in ["days ", " days", "  days", "days  ", "taste ", " taste", "cut ", " cut", "leave ", "hands ",
                    " take mo", "take mo ", "take  mo", "cost mo di ", "cost  mo di", "cost mo  di", " cost mo di",
                    "better mo di ", "better  mo di", "kind money ", "kind  money", " kind money",
                    " put fresh 1x1 1x1"]:
            self.assert_no_row(row)

    def test_another_word_in_the_place_of_word(self):
        for word in ["", "taste", "Money", "MONEY", "mone", "moneys", "kind", "sum", "mixes", "part", "totals", "mo",
                     "-", "1", "by", "money\n", "\tmoney"]:
            self.assert_no_row("kind " + word)

    def test_goes_ahead_of_names_and_of_a_desk_without_days(self):
        for row in ["put A", "take A B", "take  A", "cost A", "cost A B C", "better A", "kind A", "taste A", "days A"]:
            self.assert_no_row(row)


class NoNameTest(DeskCase):
    def test_names_that_are_none(self):
        for desk in [desk_of(DAYS), Desk(), desk_of(octagon())]:
            for name in NO_NAMES:
                self.assert_refused(NoName, desk, "put " + name + " 1x1 1x1")
                self.assert_refused(NoName, desk, "take " + name)
                self.assert_refused(NoName, desk, "cost " + name + " mo")
                self.assert_refused(NoName, desk, "cost mo " + name)
                self.assert_refused(NoName, desk, "better " + name + " mo")
                self.assert_refused(NoName, desk, "better mo " + name)

    def test_names_that_do_not_stand(self):
        for desk in [desk_of(DAYS), Desk()]:
            for name in ["fresh", "m", "moo", "letters"]:
                for row in ["take {}", "cost {} mo", "cost mo {}", "cost {} {}", "better {} mo", "better mo {}",
                            "better {} {}"]:
                    self.assert_refused(NoName, desk, row.replace("{}", name))

    def test_names_that_stood(self):
        desk = desk_of(DAYS)
        desk.say("take di")
        for row in ["take di", "cost mo di", "cost di mo", "better di di"]:
            self.assert_refused(NoName, desk, row)

    def test_ahead_of_no_book(self):
        for row in ["take mo", "cost mo mo", "cost mo di", "better mo mo", "better mo di"]:
            self.assert_refused(NoName, Desk(), row)

    def test_words_without_signs(self):
        desk = desk_of(DAYS)
        for row in ["take ", "cost mo ", "cost  mo", "cost  ", "better mo ", "better  mo", "better  ", "put  1x1 1x1",
                    "put  ", "put   ", "put  mo 1x1 1x1"]:
            self.assert_refused(NoName, desk, row)


class PutTest(DeskCase):
    def test_texts_that_are_no_day(self):
        for desk in [Desk(), desk_of(DAYS)]:
            for text in ["", " ", "1x1 ", " 1x1", "1x1  1x1", "1x1 1x1 ", " 1x1 1x1", "1", "x", "01x1 1x1", "0x1 0x1",
                         "1x0 1x1", "1x1000000001 1x1", "a b c", "1x1 1x1 1x1 1x1 1x1 1x1 1x1", "-1x1 1x1", "1x1\n",
                         "1x1\t1x1", "mo 1x1 1x1", "put a 1x1", "\u0661x1 1x1", "9" * 5000 + "x1 1x1"]:
                self.assert_refused(NoText, desk, "put fresh " + text)

    def test_what_follows_the_blank_behind_the_name_is_one_word(self):
        for wares in range(1, 7):
            desk = Desk()
            self.assert_said(desk, "put mo " + " ".join(["2x3"] * wares), "ok")
            self.assert_said(desk, "cost mo mo", str(6 * wares))
        # With nothing behind the blank it is a word without signs.
        self.assert_refused(NoText, Desk(), "put mo ")
        self.assert_refused(NoRow, Desk(), "put mo")
        self.assert_refused(NoText, Desk(), "put mo  1x1")
        self.assert_refused(NoText, Desk(), "put mo di 1x1")

    def test_a_name_that_stands(self):
        desk = desk_of(DAYS)
        for name in NAMES[:3]:
            self.assert_refused(Twice, desk, "put " + name + " 1x1 1x1")
        self.assert_said(desk, "days", "mo di z")

    def test_a_day_that_can_not_stand_there(self):
        desk = desk_of(DAYS)
        for wares in [1, 3, 4, 5, 6]:
            self.assert_refused(NoBook, desk, "put fresh " + " ".join(["1x1"] * wares))
        desk = desk_of(octagon())
        self.assert_refused(NoBook, desk, "put ninth 1x1 1x1 1x1")
        self.assert_said(desk, "take z", "ok")
        self.assert_said(desk, "put ninth 1x1 1x1 1x1", "ok")

    def test_the_refusal_that_is_named_first(self):
        full = desk_of(octagon())
        for desk in [full, desk_of(DAYS), Desk()]:
            for text in ["", "x", "0x0", "1x1", "1x1 1x1", "1x1 1x1 1x1"]:
                self.assert_refused(NoName, desk, "put A " + text)
        for desk in [full, desk_of(DAYS)]:
            for text in ["", "x", "0x1", "1x1  1x1", "1x1 ", "0x1 0x1 0x1", "1x1 1x1 1x1 1x1 1x1 1x1 1x1"]:
                for name in ["mo", "fresh"]:
                    self.assert_refused(NoText, desk, "put " + name + " " + text)
            for text in ["1x1", "1x1 1x1", "1x1 1x1 1x1", "1x1 1x1 1x1 1x1"]:
                self.assert_refused(Twice, desk, "put mo " + text)
            self.assert_refused(NoBook, desk, "put fresh 1x1 1x1 1x1 1x1")

    def test_other_wares_where_all_days_were_taken_out(self):
        desk = desk_of(DAYS)
        for name in NAMES[:3]:
            self.assert_refused(NoBook, desk, "put fresh 1x1 1x1 1x1")
            desk.say("take " + name)
        self.assert_said(desk, "put fresh 1x1 1x1 1x1", "ok")
        self.assert_said(desk, "put mo 1x1 1x1 1x1", "ok")


class WithoutDaysTest(DeskCase):
    def assert_empty(self, desk):
        for row in QUESTIONS:
            self.assert_refused(NoBook, desk, row)
        self.assert_refused(NoRow, desk, "kind taste")
        self.assert_refused(NoName, desk, "cost mo mo")
        self.assert_said(desk, "days", "-")

    def test_a_new_desk(self):
        self.assert_empty(Desk())

    def test_where_all_days_were_taken_out(self):
        desk = desk_of(DAYS)
        for name in ["di", "mo", "z"]:
            desk.say("take " + name)
        self.assert_empty(desk)

    def test_where_all_was_refused(self):
        desk = Desk()
        for row in ["put A 1x1", "put a 1", "put a 0x1", "put a", "take a"]:
            with self.assertRaises(TasteError):
                desk.say(row)
        self.assert_empty(desk)


class AskedAgainTest(DeskCase):
    def test_what_is_refused_changes_nothing(self):
        refused = ["put", "put A 1x1 1x1", "put fresh", "put fresh ", "put fresh 0x1", "put mo 5x5 5x5", "put mo x",
                   "put fresh 1x1 1x1 1x1 1x1", "put  1x1 1x1", "take fresh", "take", "take mo di", "take  mo",
                   "take mo ", "", "kind mo", "cost mo fresh", "days mo", "TAKE mo", " take mo"]
        for book in [DAYS, RINGING, octagon((2,))]:
            desk = desk_of(book)
            names = NAMES[:len(book)]
            before = answers_of(desk_of(book), names)
            for row in refused:
                with self.assertRaises(TasteError):
                    desk.say(row)
                self.assertEqual(desk.say("days"), " ".join(names))
            self.assertEqual(answers_of(desk, names), before)

    def test_asked_again(self):
        for book in books():
            names = NAMES[:len(book)]
            desk = desk_of(book)
            first = answers_of(desk, names)
            self.assertEqual(answers_of(desk, names), first)
            self.assertEqual(answers_of(desk_of(book), names), first)

    def test_a_day_taken_out_again_leaves_nothing_behind(self):
        rolls = Rolls(252)
        for book in books():
            if len(book) < 8:
                names = NAMES[:len(book)]
                desk = desk_of(book)
                before = answers_of(desk, names)
                day = rolls.book(1, len(book[0][0]), 9, 9)[0]
                self.assert_said(desk, "put fresh " + shown_day(*day), "ok")
                answers_of(desk, names + ["fresh"])
                self.assert_said(desk, "take fresh", "ok")
                self.assertEqual(answers_of(desk, names), before)

    def test_two_desks_know_nothing_of_one_another(self):
        one, other = Desk(), Desk()
        one.say("put mo 1x1")
        self.assert_said(other, "days", "-")
        self.assert_said(other, "put mo 1x1 1x1", "ok")
        self.assert_said(one, "take mo", "ok")
        self.assert_said(other, "days", "mo")

    def test_no_answer_has_the_sign_of_the_hundredth_part(self):
        for book in books():
            for answer in answers_of(desk_of(book), NAMES[:len(book)]):
                self.assertNotIn(chr(37), answer)


if __name__ == "__main__":
    unittest.main()
