import unittest

from halfcuts import errors

NAMES = [
    "InvalidWord", "InvalidMoment", "InvalidPairs", "InvalidNumber", "InvalidExponent",
    "NoOrder", "NoLoop", "NoMark", "NothingToUndo", "Unreadable",
]


class ErrorsTest(unittest.TestCase):
    def classes(self):
        return [getattr(errors, name) for name in NAMES]

    def test_cut_error_is_directly_below_value_error(self):
        self.assertEqual(errors.CutError.__bases__, (ValueError,))

    def test_every_other_class_is_directly_below_cut_error(self):
        for error in self.classes():
            with self.subTest(error=error):
                self.assertEqual(error.__bases__, (errors.CutError,))

    def test_there_are_eleven_exception_classes(self):
        found = [x for x in vars(errors).values() if isinstance(x, type) and issubclass(x, BaseException)]
        self.assertCountEqual(found, [errors.CutError] + self.classes())
        self.assertEqual(len(found), 11)

    def test_value_by_position_and_by_name(self):
        for error in [errors.CutError] + self.classes():
            for value in ["2", "", None, 0, -10 ** 30, ("2", "")]:
                with self.subTest(error=error, value=value):
                    self.assertEqual(error(value).value, value)
                    self.assertEqual(error(value=value).value, value)

    def test_exactly_one_argument(self):
        for error in [errors.CutError] + self.classes():
            with self.subTest(error=error):
                self.assertRaises(TypeError, error)
                self.assertRaises(TypeError, error, 1, 2)
                self.assertRaises(TypeError, error, 1, value=1)
                self.assertRaises(TypeError, error, wrong=1)

    def test_caught_as_cut_error_but_not_as_another_one(self):
        for error in self.classes():
            with self.subTest(error=error):
                with self.assertRaises(errors.CutError) as caught:
                    raise error(7)
                self.assertEqual(caught.exception.value, 7)
                for other in self.classes():
                    self.assertEqual(issubclass(error, other), error is other)

    def test_the_message_shows_the_value(self):
        self.assertEqual(str(errors.InvalidWord("2")), "'2'")


if __name__ == "__main__":
    unittest.main()
