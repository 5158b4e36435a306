"""Promises [2], [3], [5] and [6]: rows, right rows and partners."""

import unittest

from bracketrows.errors import NoKinds, NoLine, NotRight
from bracketrows.lines import is_line, is_right, partners
from tests.helper import ALL_K, BRACKETS, all_rows, is_right_by_taking_away, no_kinds, no_lines, right_rows


class Lines(unittest.TestCase):
    def test_ordinary_rows(self):
        for k, row in ((1, "()"), (1, "(?)"), (2, "[(])"), (3, "{}[]()??"), (4, "<{[()]}>"), (4, "><")):
            self.assertIs(is_line(k, row), True, (k, row))

    def test_the_empty_row(self):
        for k in ALL_K:
            self.assertIs(is_line(k, ""), True)

    def test_each_sign_by_each_k(self):
        for k in ALL_K:
            for at, bracket in enumerate(BRACKETS):
                self.assertIs(is_line(k, bracket), at < 2 * k, (k, bracket))
            self.assertIs(is_line(k, "?"), True)

    def test_every_other_sign_is_none(self):
        for code in range(32, 127):
            if chr(code) not in BRACKETS + "?":
                for row in (chr(code), "(" + chr(code), chr(code) + ")", "?" * 39 + chr(code)):
                    self.assertIs(is_line(4, row), False, row)

    def test_forty_and_forty_one_signs(self):
        for k in ALL_K:
            for sign in BRACKETS[:2 * k] + "?":
                self.assertIs(is_line(k, sign * 39), True)
                self.assertIs(is_line(k, sign * 40), True)
                self.assertIs(is_line(k, sign * 41), False)

    def test_what_is_no_row(self):
        for k in ALL_K:
            for thing in no_lines(k):
                self.assertIs(is_line(k, thing), False, (k, thing))

    def test_told_again_the_same(self):
        for thing in ("", "(?)", "x", None, ["("]):
            self.assertEqual([is_line(2, thing) for step in range(3)], [is_line(2, thing)] * 3)


class RightRows(unittest.TestCase):
    def test_ordinary_rows(self):
        for k, row in ((1, "()"), (1, "(())()"), (2, "[()]([])"), (3, "{[()]}"), (4, "<>{}[]()"), (4, "<<>{}>")):
            self.assertIs(is_right(k, row), True, (k, row))
        for k, row in ((1, ")("), (1, "("), (1, ")"), (1, "())("), (2, "(]"), (2, "([)]"), (4, "<}"), (4, "(()")):
            self.assertIs(is_right(k, row), False, (k, row))

    def test_the_empty_row(self):
        for k in ALL_K:
            self.assertIs(is_right(k, ""), True)

    def test_an_unknown_one_is_never_right(self):
        for row in ("?", "??", "(?", "?)", "(?)", "()?", "?()", "()??", "(??)", "?" * 40):
            for k in ALL_K:
                self.assertIs(is_right(k, row), False, row)

    def test_each_kind_is_closed_by_its_own_alone(self):
        for opening in BRACKETS[::2]:
            for closing in BRACKETS[1::2]:
                alike = BRACKETS.index(opening) + 1 == BRACKETS.index(closing)
                self.assertIs(is_right(4, opening + closing), alike)

    def test_forty_signs(self):
        for k in ALL_K:
            opening, closing = BRACKETS[2 * k - 2:2 * k]
            self.assertIs(is_right(k, (opening + closing) * 20), True)
            self.assertIs(is_right(k, opening * 20 + closing * 20), True)
            self.assertIs(is_right(k, opening * 21 + closing * 19), False)
            self.assertIs(is_right(k, opening * 19 + closing * 21), False)

    def test_all_short_rows(self):
        for k, longest in ((1, 8), (2, 6), (3, 5), (4, 4)):
            right = set(right_rows(k, longest))
            for row in all_rows(k, longest):
                told = is_right(k, row)
                self.assertIs(told, row in right, (k, row))
                self.assertIs(told, is_right_by_taking_away(row), (k, row))

    def test_a_right_row_stays_right_by_more_kinds(self):
        for row in right_rows(2, 6):
            for k in (2, 3, 4):
                self.assertIs(is_right(k, row), True)


class Partners(unittest.TestCase):
    def test_ordinary_rows(self):
        self.assertEqual(partners(1, "()"), [1, 0])
        self.assertEqual(partners(1, "(())()"), [3, 2, 1, 0, 5, 4])
        self.assertEqual(partners(2, "[()]([])"), [3, 2, 1, 0, 7, 6, 5, 4])
        self.assertEqual(partners(4, "<{}[()]>"), [7, 2, 1, 6, 5, 4, 3, 0])

    def test_the_empty_row(self):
        for k in ALL_K:
            self.assertEqual(partners(k, ""), [])

    def test_forty_signs(self):
        self.assertEqual(partners(1, "(" * 20 + ")" * 20), list(range(39, -1, -1)))
        self.assertEqual(partners(4, "<>" * 20), [at + 1 - 2 * (at % 2) for at in range(40)])

    def test_kinds_of_what_is_told(self):
        told = partners(2, "[()]")
        self.assertIs(type(told), list)
        self.assertEqual({type(place) for place in told}, {int})

    def test_all_short_right_rows(self):
        for k, longest in ((1, 12), (2, 8), (3, 6), (4, 6)):
            for row in right_rows(k, longest):
                told = partners(k, row)
                self.assertEqual(len(told), len(row))
                for at, partner in enumerate(told):
                    self.assertEqual(told[partner], at)
                    if at < partner:
                        self.assertIn(row[at] + row[partner], ("()", "[]", "{}", "<>"))
                        self.assertTrue(is_right_by_taking_away(row[at + 1:partner]))

    def test_not_right(self):
        for k, longest in ((1, 6), (2, 5), (4, 3)):
            for row in all_rows(k, longest):
                if not is_right_by_taking_away(row):
                    with self.assertRaises(NotRight, msg=row):
                        partners(k, row)
        for row in ("(" * 40, ")" * 40, "?" * 40, "()" * 19 + ")(", "(" * 21 + ")" * 19):
            with self.assertRaises(NotRight):
                partners(1, row)

    def test_a_told_list_is_the_askers_own(self):
        for row in ("", "()", "[()]"):
            first = partners(2, row)
            kept = list(first)
            second = partners(2, row)
            self.assertIsNot(first, second)
            first.append(99)
            first[0] = 98
            self.assertEqual(second, kept)
            self.assertEqual(partners(2, row), kept)
            self.assertIs(is_right(2, row), True)


class Refusals(unittest.TestCase):
    def test_no_kinds_of_any_k_and_ahead_of_all_else(self):
        things = ("", "()", "(", "?", "x", "[]", "(" * 41, None, 5, True, b"()", [], (), {}, [["("]])
        for k in no_kinds():
            for thing in things:
                for asked in (is_line, is_right, partners):
                    with self.assertRaises(NoKinds, msg=(asked, k, thing)):
                        asked(k, thing)

    def test_no_line_of_anything_and_ahead_of_not_right(self):
        for k in ALL_K:
            for thing in no_lines(k):
                for asked in (is_right, partners):
                    with self.assertRaises(NoLine, msg=(asked, k, thing)):
                        asked(k, thing)

    def test_a_refusal_changes_nothing(self):
        thing = ["(", [")"]]
        for asked in (is_right, partners):
            with self.assertRaises(NoLine):
                asked(1, thing)
            with self.assertRaises(NoKinds):
                asked(thing, "()")
        self.assertEqual(thing, ["(", [")"]])
        self.assertIs(is_line(1, thing), False)
        self.assertEqual(thing, ["(", [")"]])
        self.assertEqual(partners(1, "()"), [1, 0])

    def test_a_refusal_has_words(self):
        for refused, k, row in ((NoKinds, 0, ""), (NoLine, 1, "x"), (NotRight, 1, "(")):
            with self.assertRaises(refused) as caught:
                partners(k, row)
            self.assertIs(type(caught.exception), refused)
            self.assertEqual(caught.exception.args, (str(caught.exception),))
            self.assertTrue(str(caught.exception))


if __name__ == "__main__":
    unittest.main()
