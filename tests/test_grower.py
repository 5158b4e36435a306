"""Promises [2], [3], [4] and [20]: rows that grow at their end and shrink."""

import copy
import unittest

from bracketrows.begun import depths, fewest_more, may_go_on
from bracketrows.errors import NoKinds, NoLine, NoNumber, TooMany
from bracketrows.fillings import how_many
from bracketrows.grower import Grower
from tests.helper import (
    ALL_K, BRACKETS, all_rows, count_by_stacks, depths_one_by_one, forty_with_fillings, forty_without_fillings,
    many_by_depth, no_brackets, no_kinds, right_fillings,
)


def grown(k, row):
    grower = Grower(k)
    for sign in row:
        grower.put(sign)
    return grower


def no_signs(k):
    """Things that are no sign of a row by k."""
    return [thing for thing in no_brackets(k) if thing != "?"]


class GrowerCase(unittest.TestCase):
    def check_row(self, grower, k, row):
        self.assertEqual(grower.row(), row, (k, row))
        self.assertEqual(grower.how_many(), how_many(k, row), (k, row))
        self.assertIs(grower.may_go_on(), may_go_on(k, row), (k, row))
        self.assertEqual(grower.depths(), depths(k, row), (k, row))
        self.assertEqual(grower.fewest_more(), fewest_more(k, row), (k, row))

    def check_by_stacks(self, grower, k, row):
        told = sorted(many_by_depth(k, row))
        self.assertEqual(grower.row(), row)
        self.assertEqual(grower.how_many(), count_by_stacks(k, row), row)
        self.assertEqual(grower.depths(), told, row)
        self.assertIs(grower.may_go_on(), told != [], row)
        self.assertEqual(grower.fewest_more(), min(told, default=None), row)

    def refuse(self, refused, asked, *arguments):
        with self.assertRaises(refused, msg=arguments) as caught:
            asked(*arguments)
        self.assertIs(type(caught.exception), refused)
        self.assertTrue(str(caught.exception))


class Rows(GrowerCase):
    def test_at_first_an_empty_row(self):
        for k in ALL_K:
            grower = Grower(k)
            self.assertEqual(grower.row(), "")
            self.assertEqual(grower.how_many(), 1)
            self.assertIs(grower.may_go_on(), True)
            self.assertEqual(grower.depths(), [0])
            self.assertEqual(grower.fewest_more(), 0)

    def test_told_by_hand(self):
        grower = Grower(2)
        for sign, many, told in (
            ("[", 0, [1]), ("?", 1, [0, 2]), ("?", 0, [1, 3]), ("]", 3, [0, 2]), ("]", 0, [1]), ("]", 1, [0]),
            (")", 0, []), ("?", 0, []),
        ):
            grower.put(sign)
            self.assertEqual((grower.how_many(), grower.depths()), (many, told), grower.row())
            self.assertIs(grower.may_go_on(), told != [])
            self.assertEqual(grower.fewest_more(), told[0] if told else None)
        self.assertEqual(grower.row(), "[??]]])?")

    def test_put_and_back_tell_nothing(self):
        grower = Grower(1)
        self.assertIsNone(grower.put("("))
        self.assertIsNone(grower.put("?"))
        self.assertIsNone(grower.back())
        self.assertEqual(grower.row(), "(")

    def test_all_short_rows_one_by_one(self):
        for k, longest in ((1, 6), (2, 4), (3, 3), (4, 3)):
            for row in all_rows(k, longest):
                grower = grown(k, row)
                told = depths_one_by_one(k, row)
                self.assertEqual(grower.row(), row)
                self.assertEqual(grower.how_many(), len(right_fillings(k, row)), row)
                self.assertEqual(grower.depths(), told, row)
                self.assertIs(grower.may_go_on(), told != [], row)
                self.assertEqual(grower.fewest_more(), min(told, default=None), row)

    def test_rows_of_forty_sign_by_sign_there_and_back(self):
        for k in ALL_K:
            for row in forty_with_fillings(k)[k::4] + forty_without_fillings(k)[k::4]:
                grower = Grower(k)
                self.check_row(grower, k, "")
                for at, sign in enumerate(row):
                    grower.put(sign)
                    self.check_row(grower, k, row[:at + 1])
                self.check_by_stacks(grower, k, row)
                for at in reversed(range(40)):
                    grower.back()
                    self.check_row(grower, k, row[:at])

    def test_signs_put_and_taken_back_in_any_order(self):
        for k in ALL_K:
            signs = BRACKETS[:2 * k] + "?" * 9
            grower, row, ways = Grower(k), "", []
            for step in range(300):
                if row and (not grower.may_go_on() or (step * step * 7 + step * 3) // 5 % 3 == 0):
                    grower.back()
                    row = row[:-1]
                elif len(row) < 40:
                    sign = signs[(step * step + step * 5) // 3 % len(signs)]
                    grower.put(sign)
                    row += sign
                else:
                    self.refuse(TooMany, grower.put, "?")
                self.check_row(grower, k, row)
                ways.append((len(row) == 40, grower.may_go_on()))
            self.assertLessEqual({(True, True), (False, True), (False, False)}, set(ways))

    def test_what_was_taken_back_leaves_nothing(self):
        for k in ALL_K:
            grower = grown(k, "(?")
            for sign in ")" + BRACKETS[:2 * k]:
                grower.put(sign)
                grower.back()
                self.check_row(grower, k, "(?")
            grower.put(")")
            grower.put(")")
            grower.put("?")
            for step in range(3):
                grower.back()
            self.check_row(grower, k, "(?")

    def test_a_row_that_may_not_go_on_grows_and_comes_back(self):
        grower = grown(1, ")" + "?" * 39)
        self.assertIs(grower.may_go_on(), False)
        for step in range(40):
            grower.back()
        self.assertIs(grower.may_go_on(), True)
        self.check_row(grower, 1, "")


class Lists(GrowerCase):
    def test_what_is_told_is_the_askers_own(self):
        grower = grown(2, "(??")
        first, second = grower.depths(), grower.depths()
        self.assertIsNot(first, second)
        self.assertIs(type(first), list)
        first.append(99)
        first[0] = None
        self.assertEqual(second, [1, 3])
        self.check_row(grower, 2, "(??")
        first.clear()
        grower.put("?")
        self.assertEqual(second, [1, 3])
        self.assertEqual(grower.depths(), [0, 2, 4])

    def test_the_empty_lists_are_two(self):
        grower = grown(1, ")")
        first = grower.depths()
        first.append(0)
        self.assertEqual(grower.depths(), [])
        self.assertIs(grower.may_go_on(), False)

    def test_kinds_of_what_is_told(self):
        for row in ("", "(", "??", ")"):
            grower = grown(2, row)
            self.assertIs(type(grower.row()), str)
            self.assertIs(type(grower.how_many()), int)
            self.assertIs(type(grower.may_go_on()), bool)
            self.assertIs(type(grower.depths()), list)
            self.assertIs(type(grower.fewest_more()), type(None) if row == ")" else int)

    def test_told_again_the_same(self):
        grower = grown(4, "?(?[??")
        for step in range(3):
            self.check_row(grower, 4, "?(?[??")

    def test_two_side_by_side(self):
        one, other, third = Grower(1), Grower(4), Grower(1)
        one.put("(")
        other.put("<")
        other.put("?")
        self.check_row(one, 1, "(")
        self.check_row(other, 4, "<?")
        self.check_row(third, 1, "")
        one.put(")")
        other.back()
        self.check_row(one, 1, "()")
        self.check_row(other, 4, "<")
        self.refuse(NoLine, one.put, "<")
        self.refuse(NoNumber, third.back)
        other.put(">")
        self.check_row(one, 1, "()")
        self.check_row(other, 4, "<>")


class Refusals(GrowerCase):
    def test_no_kinds_of_any_k(self):
        for k in no_kinds():
            self.refuse(NoKinds, Grower, k)

    def test_no_line_of_anything(self):
        for k in ALL_K:
            for row in ("", "(", "(?", ")"):
                grower = grown(k, row)
                for sign in no_signs(k):
                    self.refuse(NoLine, grower.put, sign)
                    self.assertEqual(grower.row(), row)
                self.check_row(grower, k, row)

    def test_a_forty_first(self):
        for k in ALL_K:
            for row in ("?" * 40, "(" * 40, ")" * 40):
                grower = grown(k, row)
                for sign in BRACKETS[:2 * k] + "?":
                    self.refuse(TooMany, grower.put, sign)
                self.check_row(grower, k, row)

    def test_no_line_ahead_of_too_many(self):
        for k in ALL_K:
            grower = grown(k, "?" * 40)
            for sign in no_signs(k):
                self.refuse(NoLine, grower.put, sign)
            self.check_row(grower, k, "?" * 40)

    def test_back_of_an_empty_row(self):
        for k in ALL_K:
            grower = Grower(k)
            self.refuse(NoNumber, grower.back)
            self.check_row(grower, k, "")
            grower.put("(")
            grower.back()
            self.refuse(NoNumber, grower.back)
            self.refuse(NoNumber, grower.back)
            self.check_row(grower, k, "")

    def test_it_goes_on_behind_a_refusal(self):
        for k in ALL_K:
            grower = Grower(k)
            self.refuse(NoNumber, grower.back)
            grower.put("(")
            self.refuse(NoLine, grower.put, "x")
            self.refuse(NoLine, grower.put, "()")
            self.refuse(NoLine, grower.put, "")
            grower.put("?")
            self.check_row(grower, k, "(?")
            grower.back()
            self.check_row(grower, k, "(")
            for step in range(39):
                grower.put("?")
            self.refuse(TooMany, grower.put, ")")
            grower.back()
            grower.put(")")
            self.check_row(grower, k, "(" + "?" * 38 + ")")

    def test_a_refusal_leaves_what_was_handed_in(self):
        thing = ["(", ["?"], {"a": [1]}]
        kept = copy.deepcopy(thing)
        self.refuse(NoKinds, Grower, thing)
        self.refuse(NoLine, Grower(1).put, thing)
        self.refuse(NoLine, grown(1, "?" * 40).put, thing)
        self.assertEqual(thing, kept)


if __name__ == "__main__":
    unittest.main()
