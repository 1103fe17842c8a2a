"""The errors by which the package refuses, one class for each refusal."""


class TasteError(ValueError):
    pass


class NoBook(TasteError):
    pass


class NoDay(TasteError):
    pass


class NoTaste(TasteError):
    pass


class NoName(TasteError):
    pass


class Twice(TasteError):
    pass


class NoText(TasteError):
    pass


class NoRow(TasteError):
    pass
