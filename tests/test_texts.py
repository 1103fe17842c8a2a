import unittest

from samples import HIGHEST_AMOUNT, HIGHEST_PRICE, Rolls, highest_book
from tastesbook.days import check
from tastesbook.errors import NoText, TasteError
from tastesbook.texts import read_day, shown_day, shown_share

# Each is a text and the day that it writes.
WRITTEN = [
    ("3x20 0x7", ((20, 7), (3, 0))),
    ("1x1", ((1,), (1,))),
    ("0x7 3x20", ((7, 20), (0, 3))),
    ("10x100 100x10", ((100, 10), (10, 100))),
    ("0x1 0x1 0x1 0x1 0x1 1x1", ((1, 1, 1, 1, 1, 1), (0, 0, 0, 0, 0, 1))),
    ("1000000000000000000x1000000000", ((HIGHEST_PRICE,), (HIGHEST_AMOUNT,))),
    (" ".join(["1000000000000000000x1000000000"] * 6), ((HIGHEST_PRICE,) * 6, (HIGHEST_AMOUNT,) * 6)),
]
# Digits of other scripts, which Python's int would read as well.
OTHER_DIGITS = ["\u0663", "\uff13", "\u00b3", "\u00b9", "\u2460", "\u09e9", "\U0001d7d1"]


class ReadDayTest(unittest.TestCase):
    def assert_refused(self, text):
        with self.subTest(text=text[:60]):
            with self.assertRaises(NoText) as caught:
                read_day(text)
            self.assertIsInstance(caught.exception, TasteError)

    def test_written_out(self):
        for text, day in WRITTEN:
            with self.subTest(text=text):
                told = read_day(text)
                self.assertEqual(told, day)
                self.assertIs(type(told), tuple)
                self.assertEqual([type(part) for part in told], [tuple, tuple])
                self.assertEqual([type(number) for part in told for number in part], [int] * 2 * len(day[0]))
                self.assertEqual(read_day(text), told)

    def test_the_amount_stands_ahead_of_the_price(self):
        self.assertEqual(read_day("2x5"), ((5,), (2,)))
        # As an amount this is allowed, as a price it is none.
        self.assertEqual(read_day("1000000001x1"), ((1,), (1000000001,)))
        self.assert_refused("1x1000000001")
        self.assertEqual(read_day("0x1 1x1"), ((1, 1), (0, 1)))
        self.assert_refused("1x0 1x1")

    def test_the_bounds(self):
        self.assertEqual(read_day(f"{HIGHEST_AMOUNT}x1"), ((1,), (HIGHEST_AMOUNT,)))
        self.assertEqual(read_day(f"1x{HIGHEST_PRICE}"), ((HIGHEST_PRICE,), (1,)))
        for more in [1, 9, 10 ** 18, 10 ** 19, 10 ** 100]:
            self.assert_refused(f"{HIGHEST_AMOUNT + more}x1")
            self.assert_refused(f"{HIGHEST_AMOUNT + more}x1 1x1")
            self.assert_refused(f"1x1 0x{HIGHEST_PRICE + more}")
        for price in ["0", "1000000001", "9999999999", "10000000000"]:
            self.assert_refused(f"1x{price}")
            self.assert_refused(f"1x1 1x{price}")
            self.assert_refused(f"0x{price} 1x1")

    def test_more_figures_than_python_reads(self):
        for many in [20, 4300, 4301, 5000, 100000]:
            for number in ["1" * many, "9" * many, "0" * many, "0" * many + "1"]:
                self.assert_refused(f"{number}x1")
                self.assert_refused(f"1x{number}")
                self.assert_refused(f"1x1 {number}x{number}")

    def test_no_amount_above_nothing(self):
        for wares in range(1, 7):
            self.assert_refused(" ".join(["0x7"] * wares))
            self.assertEqual(read_day(" ".join(["0x7"] * (wares - 1) + ["1x7"]))[1][-1], 1)

    def test_no_ware_and_too_many(self):
        for text in ["", " ", "  "]:
            self.assert_refused(text)
        for wares in [7, 8, 9, 100]:
            self.assert_refused(" ".join(["1x1"] * wares))
        for wares in range(1, 7):
            self.assertEqual(read_day(" ".join(["1x1"] * wares)), ((1,) * wares, (1,) * wares))

    def test_noughts_ahead(self):
        for text in ["03x20", "3x020", "00x7 1x1", "1x1 00x7", "3x20 0x07", "000x1 1x1", "1x00", "01x1", "1x01"]:
            self.assert_refused(text)
        self.assertEqual(read_day("10x20 0x700"), ((20, 700), (10, 0)))

    def test_blanks(self):
        for text in [" 3x20", "3x20 ", "  3x20", "3x20  0x7", "3x20 0x7 ", " 3x20 0x7", "3 x20", "3x 20", "3 x 20",
                     "3x20 0x 7", "3x2 0", "3x20   0x7"]:
            self.assert_refused(text)
        for blank in ["\t", "\n", "\r", "\u00a0", "\u2003", "\x0b", "\x1f", "", ",", ", ", "_"]:
            self.assert_refused(f"3x20{blank}1x7")
        for end in ["\n", "\t", "\r\n", "\u00a0", "\0"]:
            self.assert_refused("3x20" + end)
            self.assert_refused(end + "3x20")
            self.assert_refused("3x20" + end + " 1x7")

    def test_no_x_and_two(self):
        for text in ["3", "320", "3 20", "3x20 7", "7 3x20", "x", "3x", "x20", "xx", "3xx20", "3x20x", "x3x20",
                     "3x20x7", "3x20 x", "3x20 0x", "3x20 x7", "3x20x0x7", "3X20", "3*20", "3\u00d720", "3-20", "3/20"]:
            self.assert_refused(text)

    def test_signs_ahead_and_letters(self):
        for text in ["+3x20", "-3x20", "3x+20", "3x-20", "-0x7 1x1", "+0x7 1x1", "3_0x20", "3x2_0", "3.0x20", "3x20.0",
                     "3e1x20", "3x1e2", "0x1f", "0xx1", "0b1x1", "1x0x1", "ax1", "1xa", "threex20", "1xI", "-", "ok",
                     "3,000x20", "'3x20'", "(3x20)", "3x20;", "None", "1L x1", "\u22123x20"]:
            self.assert_refused(text)

    def test_other_digits(self):
        for digit in OTHER_DIGITS:
            for text in [f"{digit}x20", f"3x{digit}", f"3{digit}x20", f"3x2{digit}", f"3x20 {digit}x7"]:
                self.assert_refused(text)

    def test_one_wrong_ware_among_right_ones(self):
        for wrong in ["", "x", "3", "03x1", "1x0", "1x1x1", "1x1000000001"]:
            for place in range(5):
                wares = ["1x1"] * 4
                wares.insert(place, wrong)
                self.assert_refused(" ".join(wares))

    def test_by_its_arguments_name(self):
        self.assertEqual(read_day(text="3x20 0x7"), ((20, 7), (3, 0)))


class ShownTest(unittest.TestCase):
    def test_days_written_out(self):
        for text, day in WRITTEN:
            told = shown_day(day[0], day[1])
            self.assertIs(type(told), str)
            self.assertEqual(told, text)

    def test_to_and_fro(self):
        rolls = Rolls(231)
        days = [day for wares in range(1, 7) for day in rolls.book(20, wares, 12, 12)]
        days += [day for wares in range(1, 7) for day in rolls.book(20, wares, HIGHEST_PRICE, HIGHEST_AMOUNT)]
        days += list(highest_book(rolls, 40))
        for day in days:
            text = shown_day(day[0], day[1])
            self.assertEqual(read_day(text), day)
            self.assertIs(check((read_day(text),)), True)
            self.assertEqual(shown_day(*read_day(text)), text)
            for sign in text:
                self.assertIn(sign, "0123456789x ")

    def test_shares(self):
        for share, text in [
            ((1, 1), "1/1"), ((1, 2), "1/2"), ((2, 1), "2/1"), ((37, 100), "37/100"), ((10, 3), "10/3"),
            ((10 ** 59 + 1, 10 ** 59), "1" + "0" * 58 + "1/1" + "0" * 59), ((1, 10 ** 60 - 1), "1/" + "9" * 60),
        ]:
            told = shown_share(share)
            self.assertIs(type(told), str)
            self.assertEqual(told, text)

    def test_by_their_arguments_names(self):
        self.assertEqual(shown_day(prices=(20, 7), amounts=(3, 0)), "3x20 0x7")
        self.assertEqual(shown_share(share=(2, 3)), "2/3")


if __name__ == "__main__":
    unittest.main()
