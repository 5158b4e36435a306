"""Promises [2], [3], [4], [9] and [10]: how many right fillings and right rows there are."""

import math
import unittest

from bracketrows.errors import NoKinds, NoLine, NoNumber
from bracketrows.fillings import can_be_right, how_many, how_many_right
from bracketrows.shapes import turned
from tests.helper import (
    ALL_K, all_rows, count_by_stacks, forty_with_fillings, forty_without_fillings, no_kinds, no_lines,
    no_numbers_below, right_fillings, right_rows, right_rows_that_fit, rows_that_fit,
)


def right_rows_by_catalan(k, n):
    """A second way to the number of right rows of n brackets."""
    half = n // 2
    return 0 if n % 2 else k ** half * math.comb(n, half) // (half + 1)


class HowMany(unittest.TestCase):
    def test_ordinary_rows(self):
        for k, row, told in (
            (1, "??", 1), (2, "??", 2), (4, "??", 4), (1, "????", 2), (2, "????", 8), (4, "????", 32),
            (1, "(?", 1), (4, "(?", 1), (1, "?)", 1), (1, "?(", 0), (1, ")?", 0), (2, "([??", 1),
            (2, "(?]?", 1), (2, "(]??", 0),
            (2, "(??]", 1), (2, "(??)", 3), (4, "(??)", 5), (3, "{????)", 9), (2, "?[?]?)", 2), (4, "?<>?", 4),
        ):
            self.assertEqual(how_many(k, row), told, (k, row))

    def test_the_empty_row_has_one(self):
        for k in ALL_K:
            self.assertEqual(how_many(k, ""), 1)
            self.assertIs(can_be_right(k, ""), True)

    def test_an_odd_length_has_none(self):
        for k in ALL_K:
            for many in range(1, 40, 2):
                self.assertEqual(how_many(k, "?" * many), 0)
                self.assertIs(can_be_right(k, "?" * many), False)

    def test_a_row_without_an_unknown_one(self):
        for k, row, told in ((1, "()", 1), (2, "[()]", 1), (2, "[(])", 0), (1, ")(", 0), (1, "(", 0), (4, "<{}>", 1)):
            self.assertEqual(how_many(k, row), told)

    def test_all_short_rows_sign_by_sign(self):
        for k, longest in ((1, 7), (2, 5), (3, 4), (4, 4)):
            for row in all_rows(k, longest):
                many = len(right_fillings(k, row))
                self.assertEqual(how_many(k, row), many, (k, row))
                self.assertIs(can_be_right(k, row), many > 0, (k, row))

    def test_longer_rows_by_all_right_rows(self):
        for k, many in ((1, 12), (2, 8), (3, 6), (4, 6)):
            right = [row for row in right_rows(k, many) if len(row) == many]
            for row in rows_that_fit(right):
                self.assertEqual(how_many(k, row), len(right_rows_that_fit(row, right)), (k, row))

    def test_forty_signs_by_a_second_way(self):
        for k in ALL_K:
            for row in forty_with_fillings(k):
                many = count_by_stacks(k, row)
                self.assertGreater(many, 0, row)
                self.assertEqual(how_many(k, row), many, row)
                self.assertEqual(how_many(k, turned(k, row)), many, row)
                self.assertIs(can_be_right(k, row), True)
            for row in forty_without_fillings(k):
                self.assertEqual(count_by_stacks(k, row), 0, row)
                self.assertEqual(how_many(k, row), 0, row)
                self.assertIs(can_be_right(k, row), False)

    def test_forty_unknown_ones(self):
        for k in ALL_K:
            self.assertEqual(how_many(k, "?" * 40), 6564120420 * k ** 20)

    def test_kinds_of_what_is_told(self):
        for row in ("", "?", "??", "()"):
            self.assertIs(type(how_many(1, row)), int)
            self.assertIs(type(can_be_right(1, row)), bool)

    def test_told_again_the_same(self):
        for row in ("", "(??)", "?" * 40):
            self.assertEqual({how_many(4, row) for step in range(3)}, {how_many(4, row)})


class HowManyRight(unittest.TestCase):
    def test_ordinary_numbers(self):
        for k, n, told in ((1, 0, 1), (4, 0, 1), (1, 1, 0), (1, 2, 1), (4, 2, 4), (2, 4, 8), (1, 6, 5), (3, 6, 135)):
            self.assertEqual(how_many_right(k, n), told)

    def test_from_0_to_forty_by_a_second_way(self):
        for k in ALL_K:
            for n in range(41):
                self.assertEqual(how_many_right(k, n), right_rows_by_catalan(k, n), (k, n))

    def test_short_ones_by_all_right_rows(self):
        for k, longest in ((1, 12), (2, 8), (3, 6), (4, 6)):
            lengths = [len(row) for row in right_rows(k, longest)]
            for n in range(longest + 1):
                self.assertEqual(how_many_right(k, n), lengths.count(n))

    def test_a_whole_number(self):
        for n in (0, 1, 2, 40):
            self.assertIs(type(how_many_right(2, n)), int)

    def test_no_number_of_anything(self):
        for k in ALL_K:
            for n in no_numbers_below(41):
                with self.assertRaises(NoNumber, msg=(k, n)):
                    how_many_right(k, n)

    def test_no_kinds_ahead_of_no_number(self):
        for k in no_kinds():
            for n in (0, 2, 40, 41, -1, True, None, "2", [2], {}):
                with self.assertRaises(NoKinds, msg=(k, n)):
                    how_many_right(k, n)


class Refusals(unittest.TestCase):
    def test_no_kinds_of_any_k_and_ahead_of_all_else(self):
        for k in no_kinds():
            for thing in ("", "()", "?", "x", "[]", "(" * 41, None, 5, True, b"()", [], (), {}, [["("]]):
                for asked in (how_many, can_be_right):
                    with self.assertRaises(NoKinds, msg=(asked, k, thing)):
                        asked(k, thing)

    def test_no_line_of_anything(self):
        for k in ALL_K:
            for thing in no_lines(k):
                for asked in (how_many, can_be_right):
                    with self.assertRaises(NoLine, msg=(asked, k, thing)):
                        asked(k, thing)

    def test_a_refusal_changes_nothing(self):
        thing = ["(", ["?"]]
        for refused, asked, arguments in (
            (NoLine, how_many, (1, thing)), (NoLine, can_be_right, (1, thing)), (NoKinds, how_many, (thing, "??")),
            (NoNumber, how_many_right, (1, thing)), (NoKinds, how_many_right, (thing, thing)),
        ):
            with self.assertRaises(refused) as caught:
                asked(*arguments)
            self.assertIs(type(caught.exception), refused)
            self.assertTrue(str(caught.exception))
            self.assertEqual(thing, ["(", ["?"]])
        self.assertEqual(how_many(1, "??"), 1)


if __name__ == "__main__":
    unittest.main()
