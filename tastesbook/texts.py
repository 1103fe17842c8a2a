"""Days and shares as texts."""

from tastesbook.days import is_day
from tastesbook.errors import NoText

FIGURES = "0123456789"
# So many has the highest amount; Python refuses to read numbers of some thousands.
MOST_FIGURES = 19


def is_number(word):
    if not 1 <= len(word) <= MOST_FIGURES or not all([sign in FIGURES for sign in word]):
        return False
    return word == "0" or not word.startswith("0")


def check_text(holds):
    if not holds:
        raise NoText("this text is no day")


def read_ware(word):
    numbers = word.split("x")
    check_text(len(numbers) == 2 and all([is_number(number) for number in numbers]))
    return (int(numbers[0]), int(numbers[1]))


def read_day(text):
    wares = [read_ware(word) for word in text.split(" ")]
    day = (tuple([ware[1] for ware in wares]), tuple([ware[0] for ware in wares]))
    check_text(is_day(day))
    return day


def shown_day(prices, amounts):
    return " ".join([f"{amount}x{price}" for price, amount in zip(prices, amounts)])


def shown_share(share):
    top = share[0]
    bottom = share[1]
    return f"{top}/{bottom}"
