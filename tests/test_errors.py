import unittest

from tastesbook.errors import NoBook, NoDay, NoName, NoRow, NoTaste, NoText, TasteError, Twice

SEVEN = [NoBook, NoDay, NoTaste, NoName, Twice, NoText, NoRow]


def is_taken(raised, taken):
    try:
        try:
            raise raised("words")
        except taken:
            return True
    except Exception:
        return False


class ErrorsTest(unittest.TestCase):
    def test_taste_error_is_taken_as_value_error(self):
        self.assertTrue(is_taken(TasteError, ValueError))
        self.assertEqual(TasteError.__bases__, (ValueError,))

    def test_each_is_taken_as_itself_as_taste_error_and_as_value_error(self):
        for error in SEVEN:
            with self.subTest(error=error.__name__):
                self.assertTrue(is_taken(error, error))
                self.assertTrue(is_taken(error, TasteError))
                self.assertTrue(is_taken(error, ValueError))

    def test_each_is_made_from_taste_error_at_once(self):
        for error in SEVEN:
            with self.subTest(error=error.__name__):
                self.assertEqual(error.__bases__, (TasteError,))

    def test_none_of_the_seven_is_taken_as_another(self):
        for one in SEVEN:
            for other in SEVEN:
                with self.subTest(one=one.__name__, other=other.__name__):
                    self.assertEqual(is_taken(one, other), one is other)

    def test_taste_error_is_taken_as_none_of_the_seven(self):
        for error in SEVEN:
            with self.subTest(error=error.__name__):
                self.assertFalse(is_taken(TasteError, error))

    def test_each_goes_by_its_own_name(self):
        names = ["NoBook", "NoDay", "NoTaste", "NoName", "Twice", "NoText", "NoRow"]
        self.assertEqual([error.__name__ for error in SEVEN], names)


if __name__ == "__main__":
    unittest.main()
