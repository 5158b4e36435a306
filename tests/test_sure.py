"""Promises [2], [3], [4], [14] and [15]: what is sure in all right fillings."""

import copy
import unittest

from bracketrows.errors import NoFilling, NoKinds, NoLine, NoPlace
from bracketrows.lines import partners
from bracketrows.sure import brackets_at, sure_pairs, sure_places
from tests.helper import (
    ALL_K, BRACKETS, all_rows, count_by_stacks, forty_with_fillings, forty_without_fillings, no_kinds, no_lines,
    no_numbers_below, right_fillings, right_rows, right_rows_that_fit, rows_that_fit, with_sign,
)


def brackets_one_by_one(fillings, i):
    there = [filling[i] for filling in fillings]
    return {bracket: there.count(bracket) for bracket in there}


def sure_places_one_by_one(row, fillings):
    return [
        (at, fillings[0][at])
        for at, sign in enumerate(row)
        if sign == "?" and len({filling[at] for filling in fillings}) == 1
    ]


def sure_pairs_one_by_one(k, fillings):
    pairs = [{(i, j) for i, j in enumerate(partners(k, filling)) if i < j} for filling in fillings]
    return sorted(set.intersection(*pairs))


class OneByOne(unittest.TestCase):
    def check_row(self, k, row, fillings):
        if not fillings:
            self.check_none(k, row)
            return
        self.assertEqual(sure_places(k, row), sure_places_one_by_one(row, fillings), (k, row))
        self.assertEqual(sure_pairs(k, row), sure_pairs_one_by_one(k, fillings), (k, row))
        for i in range(len(row)):
            self.assertEqual(brackets_at(k, row, i), brackets_one_by_one(fillings, i), (k, row, i))

    def check_none(self, k, row):
        for asked in (sure_places, sure_pairs):
            with self.assertRaises(NoFilling, msg=(k, row)):
                asked(k, row)
        for i in range(len(row)):
            with self.assertRaises(NoFilling, msg=(k, row, i)):
                brackets_at(k, row, i)

    def test_all_short_rows_sign_by_sign(self):
        for k, longest in ((1, 7), (2, 5), (3, 4), (4, 4)):
            for row in all_rows(k, longest):
                self.check_row(k, row, right_fillings(k, row))

    def test_longer_rows_by_all_right_rows(self):
        for k, many, step in ((1, 12, 1), (2, 8, 5), (3, 6, 1), (4, 6, 3)):
            right = [row for row in right_rows(k, many) if len(row) == many]
            for row in rows_that_fit(right)[::step] + ["?" * many]:
                self.check_row(k, row, right_rows_that_fit(row, right))

    def test_forty_signs_without_a_filling(self):
        for k in ALL_K:
            for row in forty_without_fillings(k):
                self.check_none(k, row)


class FortySigns(unittest.TestCase):
    def test_brackets_and_places_by_a_second_way(self):
        for k in ALL_K:
            for row in forty_with_fillings(k)[k % 2::2 if k == 4 else 5]:
                in_all = count_by_stacks(k, row)
                sure = []
                for i, sign in enumerate(row):
                    there = {
                        bracket: count_by_stacks(k, with_sign(row, i, bracket))
                        for bracket in (BRACKETS[:2 * k] if sign == "?" else sign)
                    }
                    there = {bracket: many for bracket, many in there.items() if many}
                    self.assertEqual(brackets_at(k, row, i), there, (row, i))
                    self.assertEqual(sum(there.values()), in_all)
                    if sign == "?" and len(there) == 1:
                        sure += [(i, bracket) for bracket in there]
                self.assertEqual(sure_places(k, row), sure, row)

    def test_pairs_by_a_second_way(self):
        for k in (1, 4):
            for row in forty_with_fillings(k):
                in_all = count_by_stacks(k, row)
                # A pair with what stands within it can be taken out of a right row, and what is left is right.
                sure = [
                    (i, j) for i in range(40) for j in range(i + 1, 40, 2)
                    if self.with_pair(k, row, i, j, in_all) == in_all
                ]
                self.assertEqual(sure_pairs(k, row), sure, row)

    def with_pair(self, k, row, i, j, in_all):
        many = count_by_stacks(k, row[i] + row[j])
        many *= count_by_stacks(k, row[i + 1:j]) if many else 0
        # No more fillings than in_all are there, so what doesn't divide it needs no further look.
        return many * count_by_stacks(k, row[:i] + row[j + 1:]) if many and in_all % many == 0 else 0


class Ordinary(unittest.TestCase):
    def test_brackets_at(self):
        for k, row, i, told in (
            (1, "??", 0, {"(": 1}), (2, "??", 1, {")": 1, "]": 1}), (1, "????", 1, {"(": 1, ")": 1}),
            (2, "????", 0, {"(": 4, "[": 4}), (2, "(??)", 0, {"(": 3}), (2, "(??)", 1, {"(": 1, ")": 1, "[": 1}),
            (1, "()", 1, {")": 1}), (4, "?>", 0, {"<": 1}), (4, "??", 0, {"(": 1, "[": 1, "{": 1, "<": 1}),
        ):
            self.assertEqual(brackets_at(k, row, i), told, (row, i))

    def test_sure_places(self):
        for k, row, told in (
            (1, "", []), (1, "()", []), (1, "??", [(0, "("), (1, ")")]), (2, "??", []), (2, "(?", [(1, ")")]),
            (2, "(??]", [(1, ")"), (2, "[")]), (1, "????", [(0, "("), (3, ")")]), (2, "????", []),
            (2, "((??", [(2, ")"), (3, ")")]), (4, "?<>}", [(0, "{")]), (1, "(??)", []),
        ):
            self.assertEqual(sure_places(k, row), told, row)

    def test_sure_pairs(self):
        for k, row, told in (
            (1, "", []), (1, "()", [(0, 1)]), (1, "??", [(0, 1)]), (4, "??", [(0, 1)]), (1, "????", []),
            (2, "[()]()", [(0, 3), (1, 2), (4, 5)]), (2, "((??", [(0, 3), (1, 2)]), (2, "(??]", [(0, 1), (2, 3)]),
            (4, "?()?", [(0, 3), (1, 2)]), (1, "(??)??", []), (2, "(????]", []), (2, "??[]??", [(2, 3)]),
        ):
            self.assertEqual(sure_pairs(k, row), told, row)

    def test_kinds_of_what_is_told(self):
        self.assertIs(type(brackets_at(2, "??", 0)), dict)
        self.assertEqual({(type(one), type(many)) for one, many in brackets_at(2, "??", 0).items()}, {(str, int)})
        for asked, kinds in ((sure_places, (int, str)), (sure_pairs, (int, int))):
            self.assertIs(type(asked(1, "")), list)
            self.assertIs(type(asked(1, "??")), list)
            self.assertEqual({type(one) for one in asked(1, "??")}, {tuple})
            self.assertEqual({tuple(type(part) for part in one) for one in asked(1, "??")}, {kinds})

    def test_what_is_told_is_the_askers_own(self):
        for row in ("", "??", "????", "(?"):
            for asked in (sure_places, sure_pairs):
                first, second = asked(1, row), asked(1, row)
                kept = list(second)
                self.assertIsNot(first, second)
                first.append((7, "x"))
                first[0] = None
                self.assertEqual(second, kept)
                self.assertEqual(asked(1, row), kept)
        for row in ("??", "(?"):
            first, second = brackets_at(2, row, 0), brackets_at(2, row, 0)
            kept = dict(second)
            self.assertIsNot(first, second)
            first["("] = 99
            first["x"] = 1
            self.assertEqual(second, kept)
            self.assertEqual(brackets_at(2, row, 0), kept)


class Refusals(unittest.TestCase):
    def check_all(self, refused, k, row, places=(0, 99, None, "0")):
        for asked in (sure_places, sure_pairs):
            with self.assertRaises(refused, msg=(asked, k, row)):
                asked(k, row)
        for i in places:
            with self.assertRaises(refused, msg=(k, row, i)):
                brackets_at(k, row, i)

    def test_no_kinds_of_any_k_and_ahead_of_all_else(self):
        for k in no_kinds():
            for row in ("", "??", ")(", "x", "(" * 41, None, [], True):
                self.check_all(NoKinds, k, row)

    def test_no_line_of_anything_and_ahead_of_the_rest(self):
        for k in ALL_K:
            for row in no_lines(k):
                self.check_all(NoLine, k, row)

    def test_no_place_of_anything_and_ahead_of_no_filling(self):
        for row in ("", "??", "()", ")(", "(", "?" * 40, "(" * 40):
            for i in no_numbers_below(len(row)):
                with self.assertRaises(NoPlace, msg=(row, i)):
                    brackets_at(2, row, i)

    def test_no_filling(self):
        for k, row in ((1, "?"), (1, ")("), (1, "("), (2, "(]"), (2, "([)?"), (1, ")?"), (1, "?("), (1, "(((?")):
            self.check_all(NoFilling, k, row, range(len(row)))

    def test_a_refusal_changes_nothing(self):
        thing = ["(", ["?"], {"a": [1]}]
        kept = copy.deepcopy(thing)
        self.check_all(NoLine, 1, thing, (thing,))
        self.check_all(NoKinds, thing, thing, (thing,))
        for refused, row, i in ((NoPlace, "??", thing), (NoFilling, ")(", 0)):
            with self.assertRaises(refused) as caught:
                brackets_at(1, row, i)
            self.assertIs(type(caught.exception), refused)
            self.assertTrue(str(caught.exception))
        self.assertEqual(thing, kept)
        self.assertEqual(sure_pairs(1, "??"), [(0, 1)])


if __name__ == "__main__":
    unittest.main()
