"""Promise [3]: the classes of the refusals."""

import unittest

from bracketrows import errors

NAMES = (
    "NoKinds", "NoLine", "NotRight", "NoTree", "NoNumber", "NoWeights", "NoPlace", "NoFilling",
    "TooMany", "NoName", "NoRow",
)


class Classes(unittest.TestCase):
    def test_row_error_stands_under_value_error(self):
        self.assertTrue(issubclass(errors.RowError, ValueError))

    def test_each_stands_under_row_error(self):
        for name in NAMES:
            with self.subTest(name=name):
                self.assertTrue(issubclass(getattr(errors, name), errors.RowError))
                self.assertIsNot(getattr(errors, name), errors.RowError)

    def test_none_stands_under_another(self):
        for one in NAMES:
            for other in NAMES:
                if one != other:
                    with self.subTest(one=one, other=other):
                        self.assertFalse(issubclass(getattr(errors, one), getattr(errors, other)))

    def test_each_bears_its_own_name(self):
        for name in NAMES + ("RowError",):
            self.assertEqual(getattr(errors, name).__name__, name)

    def test_str_tells_the_one_text(self):
        for name in NAMES + ("RowError",):
            for text in ("", "why", "two\nrows", "'quoted'", "a" * 1000):
                with self.subTest(name=name, text=text[:10]):
                    self.assertEqual(str(getattr(errors, name)(text)), text)

    def test_each_is_taken_by_its_name_and_as_a_row_error(self):
        for name in NAMES:
            for taken in (getattr(errors, name), errors.RowError, ValueError):
                with self.subTest(name=name, taken=taken):
                    with self.assertRaises(taken):
                        raise getattr(errors, name)("why")


if __name__ == "__main__":
    unittest.main()
