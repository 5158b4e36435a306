"""Promises [2], [3], [4] and [11]: right fillings by their numbers."""

import copy
import unittest

from bracketrows.bynumber import nth_filling, number_of
from bracketrows.errors import NoKinds, NoLine, NoNumber, NotRight
from tests.helper import (
    ALL_K, BRACKETS, all_rows, count_by_stacks, fits, forty_with_fillings, forty_without_fillings, in_order,
    is_right_by_taking_away, lists, no_kinds, no_lines, no_numbers_below, numbers, of_other_kinds, right_fillings,
    right_rows, right_rows_that_fit, rows_that_fit,
)


def number_by_stacks(k, row, filling):
    """A second way to a filling's number: how many go ahead of it, place by place."""
    ahead = 0
    for at, bracket in enumerate(filling):
        if row[at] == "?":
            for earlier in BRACKETS[:BRACKETS.index(bracket)]:
                ahead += count_by_stacks(k, filling[:at] + earlier + row[at + 1:])
    return ahead


def some_numbers(many):
    """Some numbers from 0 on, below many, the first and the last among them."""
    spread = [many * part // 7 for part in range(1, 7)]
    return sorted({number for number in [0, 1, 2, many - 2, many - 1] + spread if 0 <= number < many})


class BothWays(unittest.TestCase):
    def check_row(self, k, row, fillings):
        self.assertEqual([nth_filling(k, row, i) for i in range(len(fillings))], fillings, (k, row))
        self.assertEqual([number_of(k, row, one) for one in fillings], list(range(len(fillings))), (k, row))
        for i in (-1, len(fillings), len(fillings) + 1):
            with self.assertRaises(NoNumber, msg=(k, row, i)):
                nth_filling(k, row, i)

    def test_the_order_of_brackets(self):
        self.check_row(4, "??", ["()", "[]", "{}", "<>"])
        self.check_row(1, "????", ["(())", "()()"])
        self.check_row(2, "????", ["(())", "()()", "()[]", "([])", "[()]", "[[]]", "[]()", "[][]"])
        self.check_row(4, "(??)", ["(())", "()()", "([])", "({})", "(<>)"])
        self.check_row(3, "??[]", ["()[]", "[][]", "{}[]"])

    def test_a_closing_bracket_goes_ahead_of_a_later_kind(self):
        self.assertLess(number_of(2, "????", "()()"), number_of(2, "????", "[()]"))
        self.assertLess(number_of(4, "????", "{}<>"), number_of(4, "????", "<{}>"))
        self.assertLess(number_of(4, "??????", "[[]]()"), number_of(4, "??????", "[{}]()"))
        self.assertLess(number_of(4, "????", "[]()"), number_of(4, "????", "<>()"))

    def test_rows_of_one_filling(self):
        for k, row, filling in (
            (1, "", ""), (4, "", ""), (1, "()", "()"), (2, "[()]", "[()]"), (2, "(?", "()"), (4, "?>", "<>"),
            (2, "([??", "([])"), (2, "(??]", "()[]"),
        ):
            self.check_row(k, row, [filling])

    def test_all_short_rows_sign_by_sign(self):
        for k, longest in ((1, 7), (2, 5), (3, 4), (4, 4)):
            for row in all_rows(k, longest):
                self.check_row(k, row, right_fillings(k, row))

    def test_longer_rows_by_all_right_rows(self):
        for k, many in ((1, 12), (2, 8), (3, 6), (4, 6)):
            right = [row for row in right_rows(k, many) if len(row) == many]
            for row in rows_that_fit(right)[::5]:
                self.check_row(k, row, right_rows_that_fit(row, right))

    def test_six_unknown_ones_of_four_kinds(self):
        self.check_row(4, "?" * 6, in_order(row for row in right_rows(4, 6) if len(row) == 6))

    def test_kinds_of_what_is_told(self):
        for row in ("", "??", "()"):
            self.assertIs(type(nth_filling(2, row, 0)), str)
            self.assertIs(type(number_of(2, row, nth_filling(2, row, 0))), int)


class FortySigns(unittest.TestCase):
    def test_the_first_and_the_last(self):
        for k in ALL_K:
            opening, closing = BRACKETS[2 * k - 2:2 * k]
            many = 6564120420 * k ** 20
            self.assertEqual(nth_filling(k, "?" * 40, 0), "(" * 20 + ")" * 20)
            self.assertEqual(nth_filling(k, "?" * 40, many - 1), (opening + closing) * 20)
            self.assertEqual(number_of(k, "?" * 40, "(" * 20 + ")" * 20), 0)
            self.assertEqual(number_of(k, "?" * 40, (opening + closing) * 20), many - 1)

    def test_both_ways_by_a_second_way_of_counting(self):
        for k in ALL_K:
            for row in forty_with_fillings(k):
                many = count_by_stacks(k, row)
                told = []
                for i in some_numbers(many):
                    filling = nth_filling(k, row, i)
                    self.assertTrue(fits(row, filling), (row, filling))
                    self.assertTrue(is_right_by_taking_away(filling), (row, filling))
                    self.assertEqual(number_of(k, row, filling), i, (row, filling))
                    told.append(filling)
                self.assertEqual(in_order(told), told)
                middle = nth_filling(k, row, many * 3 // 5)
                self.assertEqual(number_by_stacks(k, row, middle), many * 3 // 5, (row, middle))
                for i in (-1, many, many + 1):
                    with self.assertRaises(NoNumber, msg=(row, i)):
                        nth_filling(k, row, i)

    def test_rows_without_a_right_filling(self):
        for k in ALL_K:
            for row in forty_without_fillings(k):
                with self.assertRaises(NoNumber, msg=row):
                    nth_filling(k, row, 0)
                for filling in (row, "()" * 20, row.replace("?", "(")):
                    with self.assertRaises(NotRight, msg=row):
                        number_of(k, row, filling)


class Refusals(unittest.TestCase):
    def test_no_number_of_anything(self):
        for k, row, many in ((1, "", 1), (1, "??", 1), (2, "????", 8), (4, "??", 4), (1, "?", 0), (1, ")(", 0)):
            for i in no_numbers_below(many):
                with self.assertRaises(NoNumber, msg=(row, i)):
                    nth_filling(k, row, i)

    def test_not_right_of_anything(self):
        others = of_other_kinds() + lists() + numbers() + ["x", "()()()", "?", " ", "?" * 41, "()" * 21, "a" * 1000]
        for k, row, wrong in (
            (1, "", ["()", "(", "??"]), (1, "??", ["", "((", "))", ")(", "??", "(?", "?)", "[]", "()()"]),
            (2, "(?", ["[]", "(]", "((", "(?", "{}"]), (2, "(??)", ["()[]", "[()]", "(??)", "[[]]", "(<>)", "([)]"]),
            (2, "([)]", ["([)]", "([])"]), (1, "()", ["", "(", "()()", "[]"]), (1, "?", ["?", "(", ")", ""]),
        ):
            for filling in wrong + others:
                with self.assertRaises(NotRight, msg=(row, filling)):
                    number_of(k, row, filling)

    def test_not_right_of_all_short_rows_but_the_fillings(self):
        for k, row in ((1, "????"), (1, "(??)"), (2, "(???"), (2, "[]??"), (2, "??]?"), (1, "(???)"), (1, "??")):
            fillings = right_fillings(k, row)
            for other in all_rows(k, 5 if k == 1 else 4):
                if other not in fillings:
                    with self.assertRaises(NotRight, msg=(row, other)):
                        number_of(k, row, other)

    def test_no_kinds_of_any_k_and_ahead_of_all_else(self):
        for k in no_kinds():
            for row in ("", "??", "x", "(" * 41, None, [], True):
                for last in (0, -1, 99, "", "()", ")(", "x", None, [0], True):
                    for asked in (nth_filling, number_of):
                        with self.assertRaises(NoKinds, msg=(asked, k, row, last)):
                            asked(k, row, last)

    def test_no_line_of_anything_and_ahead_of_the_last(self):
        for k in ALL_K:
            for row in no_lines(k):
                for last in (0, -1, "()", ")(", "", None, [0]):
                    for asked in (nth_filling, number_of):
                        with self.assertRaises(NoLine, msg=(asked, k, row, last)):
                            asked(k, row, last)

    def test_a_refusal_changes_nothing(self):
        thing = ["(", [")"], {"a": [1]}]
        kept = copy.deepcopy(thing)
        for refused, asked, arguments in (
            (NoNumber, nth_filling, (1, "??", thing)), (NotRight, number_of, (1, "??", thing)),
            (NoLine, nth_filling, (1, thing, thing)), (NoLine, number_of, (1, thing, thing)),
            (NoKinds, nth_filling, (thing, thing, thing)), (NoKinds, number_of, (thing, thing, thing)),
        ):
            with self.assertRaises(refused) as caught:
                asked(*arguments)
            self.assertIs(type(caught.exception), refused)
            self.assertTrue(str(caught.exception))
            self.assertEqual(thing, kept)
        self.assertEqual(nth_filling(1, "??", 0), "()")
        self.assertEqual(number_of(1, "??", "()"), 0)


if __name__ == "__main__":
    unittest.main()
