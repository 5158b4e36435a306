"""Promises [2], [3], [4], [17], [18] and [19]: rows that have begun."""

import copy
import functools
import itertools
import unittest

from bracketrows.begun import depths, fewest_more, first_failing, how_many_with, may_go_on
from bracketrows.errors import NoKinds, NoLine, NoNumber
from bracketrows.fillings import how_many
from tests.helper import (
    ALL_K, BRACKETS, all_fillings, all_rows, count_by_stacks, depths_one_by_one, forty_with_fillings,
    forty_without_fillings, is_right_by_taking_away, many_by_depth, no_kinds, no_lines, no_numbers_below,
)

OF_A_ROW = (may_go_on, first_failing, fewest_more, depths)


def first_failing_one_by_one(k, row):
    for place in range(len(row)):
        if not depths_one_by_one(k, row[:place + 1]):
            return place
    return None


def how_many_one_by_one(k, row, m):
    behind = ["".join(more) for more in itertools.product(BRACKETS[:2 * k], repeat=m)]
    return sum(
        is_right_by_taking_away(filling + more)
        for filling in all_fillings(k, row)
        for more in behind
    )


@functools.lru_cache(maxsize=None)
def ways_to_close(k, m, depth):
    """How many rows of m brackets close all that waits at a depth, and leave nothing."""
    if m == 0 or depth > m:
        return int(m == depth)
    closed = ways_to_close(k, m - 1, depth - 1) if depth else 0
    return closed + k * ways_to_close(k, m - 1, depth + 1)


def long_rows(k):
    """Rows by k of twenty to forty signs that may go on, and some that may not."""
    opening, closing = BRACKETS[2 * k - 2:2 * k]
    rows = forty_with_fillings(k) + forty_without_fillings(k)
    rows += [row[:20 + at % 20] for at, row in enumerate(forty_with_fillings(k))]
    rows += [row[:39 - at] for at, row in enumerate(forty_without_fillings(k))]
    return rows + [
        "(" * 19 + ")" * 20, opening * 20 + ")" * 20, "?" * 13 + closing * 14, "(" * 30 + "?" * 10,
        "(?" * 10 + closing * 3, opening * 5 + "?" * 5 + ")" * 10 + "?" * 5, "??" + closing + "?" * 20 + opening * 9,
    ]


class OneByOne(unittest.TestCase):
    def check_row(self, k, row):
        told = depths_one_by_one(k, row)
        self.assertEqual(depths(k, row), told, (k, row))
        self.assertIs(may_go_on(k, row), told != [], (k, row))
        self.assertEqual(fewest_more(k, row), min(told, default=None), (k, row))
        self.assertEqual(first_failing(k, row), first_failing_one_by_one(k, row), (k, row))

    def test_all_short_rows(self):
        for k, longest in ((1, 7), (2, 5), (3, 4), (4, 3)):
            for row in all_rows(k, longest):
                self.check_row(k, row)

    def test_some_longer_rows(self):
        for k, many, step in ((1, 10, 97), (2, 6, 61), (3, 5, 41), (4, 4, 17)):
            for row in all_rows(k, many)[::step]:
                self.check_row(k, row)

    def test_all_short_rows_with_what_comes_behind(self):
        for k, longest, most in ((1, 5, 5), (2, 3, 3), (3, 3, 2), (4, 2, 3)):
            for row in all_rows(k, longest):
                for m in range(most + 1):
                    self.assertEqual(how_many_with(k, row, m), how_many_one_by_one(k, row, m), (k, row, m))

    def test_the_fewest_that_come_make_it_right_and_fewer_do_not(self):
        for k, longest in ((1, 6), (2, 4), (3, 3), (4, 3)):
            for row in all_rows(k, longest):
                ways = [m for m in range(2 * longest) if how_many_with(k, row, m) > 0]
                self.assertEqual(fewest_more(k, row), min(ways, default=None), (k, row))


class FortySigns(unittest.TestCase):
    def test_depths_by_a_second_way(self):
        for k in ALL_K:
            for row in long_rows(k):
                told = sorted(many_by_depth(k, row))
                self.assertEqual(depths(k, row), told, (k, row))
                self.assertIs(may_go_on(k, row), told != [], (k, row))
                self.assertEqual(fewest_more(k, row), min(told, default=None), (k, row))

    def test_the_first_failing_place_by_a_second_way(self):
        for k in ALL_K:
            failing = 0
            for row in long_rows(k):
                place = first_failing(k, row)
                if place is None:
                    self.assertTrue(many_by_depth(k, row), (k, row))
                else:
                    failing += 1
                    self.assertTrue(many_by_depth(k, row[:place]), (k, row))
                    self.assertFalse(many_by_depth(k, row[:place + 1]), (k, row))
            self.assertGreater(failing, 5)

    def test_how_many_with_by_a_second_way(self):
        for k in ALL_K:
            for row in long_rows(k):
                by_depth = many_by_depth(k, row)
                for m in range(41 - len(row)):
                    told = sum(many * ways_to_close(k, m, depth) for depth, many in by_depth.items())
                    self.assertEqual(how_many_with(k, row, m), told, (k, row, m))

    def test_short_rows_with_up_to_forty(self):
        for k in ALL_K:
            opening, closing = BRACKETS[2 * k - 2:2 * k]
            for row in ("", "?", "(", closing, "??", opening + "?", "(??" + closing, "?" * 7 + opening):
                by_depth = many_by_depth(k, row)
                for m in range(41 - len(row)):
                    told = sum(many * ways_to_close(k, m, depth) for depth, many in by_depth.items())
                    self.assertEqual(how_many_with(k, row, m), told, (k, row, m))
                self.assertEqual(how_many_with(k, row, 40 - len(row)), count_by_stacks(k, row + "?" * (40 - len(row))))

    def test_none_behind_is_how_many(self):
        for k in ALL_K:
            for row in long_rows(k):
                self.assertEqual(how_many_with(k, row, 0), how_many(k, row))

    def test_a_row_may_go_on_above_forty(self):
        for k in ALL_K:
            for bracket in BRACKETS[:2 * k:2]:
                self.assertEqual(depths(k, bracket * 40), [40])
                self.assertIs(may_go_on(k, bracket * 40), True)
                self.assertEqual(fewest_more(k, bracket * 40), 40)
                self.assertIsNone(first_failing(k, bracket * 40))
                self.assertEqual(fewest_more(k, bracket * 21), 21)
                self.assertEqual(how_many_with(k, bracket * 21, 19), 0)
            self.assertEqual(depths(k, "?" * 40), list(range(0, 41, 2)))
            self.assertEqual(depths(k, "?" * 39), list(range(1, 40, 2)))
            self.assertEqual(fewest_more(k, "?" * 39), 1)


class Ordinary(unittest.TestCase):
    def test_rows(self):
        for k, row, told, failing in (
            (1, "", [0], None), (4, "", [0], None), (1, "(", [1], None), (1, ")", [], 0), (1, "?", [1], None),
            (1, "??", [0, 2], None), (1, "?)", [0], None), (2, "(]", [], 1), (2, "?]", [0], None),
            (1, "())(", [], 2), (2, "([)", [], 2), (2, "(?)", [1], None), (1, "(?)", [1], None), (2, "(?]", [1], None),
            (1, "???)", [0, 2], None), (2, "[?)]", [0], None), (2, "[?](", [2], None), (1, "?))", [], 2),
            (4, "<?{?", [0, 2, 4], None), (1, "()()", [0], None), (1, "))", [], 0), (2, "?)?]?", [1], None),
        ):
            self.assertEqual(depths(k, row), told, row)
            self.assertEqual(first_failing(k, row), failing, row)
            self.assertIs(may_go_on(k, row), failing is None, row)
            self.assertEqual(fewest_more(k, row), told[0] if told else None, row)

    def test_ways(self):
        for k, row, m, told in (
            (1, "", 0, 1), (4, "", 0, 1), (1, "", 1, 0), (1, "", 2, 1), (4, "", 2, 4), (1, "(", 1, 1), (4, "(", 1, 1),
            (4, "(", 2, 0), (4, "?", 1, 4), (2, "(", 3, 4), (1, ")", 1, 0), (2, "??", 2, 8), (2, "??", 0, 2),
            (1, "((", 2, 1), (1, "((", 4, 3), (2, "(]", 2, 0), (1, "", 40, 6564120420),
        ):
            self.assertEqual(how_many_with(k, row, m), told, (k, row, m))

    def test_kinds_of_what_is_told(self):
        for row in ("", "(", ")", "??"):
            self.assertIs(type(may_go_on(2, row)), bool)
            self.assertIs(type(how_many_with(2, row, 1)), int)
            self.assertIs(type(depths(2, row)), list)
            self.assertLessEqual({type(one) for one in depths(2, row)}, {int})
            for asked in (first_failing, fewest_more):
                told = asked(2, row)
                self.assertTrue(told is None or type(told) is int, (asked, row))

    def test_what_is_told_is_the_askers_own(self):
        for row in ("", "(", ")", "????"):
            first, second = depths(1, row), depths(1, row)
            kept = list(second)
            self.assertIsNot(first, second)
            first.append(99)
            first[0] = None
            self.assertEqual(second, kept)
            self.assertEqual(depths(1, row), kept)
            self.assertEqual(fewest_more(1, row), kept[0] if kept else None)

    def test_told_again_the_same(self):
        for row in ("", "(", ")", "?" * 40, "(]?"):
            for asked in OF_A_ROW:
                self.assertEqual(asked(2, row), asked(2, row))


class Refusals(unittest.TestCase):
    def check_all(self, refused, k, row, more=(0, 1, -1, 99, True, None, "0", [0])):
        for asked in OF_A_ROW:
            with self.assertRaises(refused, msg=(asked, k, row)):
                asked(k, row)
        for m in more:
            with self.assertRaises(refused, msg=(k, row, m)):
                how_many_with(k, row, m)

    def test_no_kinds_of_any_k_and_ahead_of_all_else(self):
        for k in no_kinds():
            for row in ("", "??", ")(", "x", "(" * 41, None, [], True):
                self.check_all(NoKinds, k, row)

    def test_no_line_of_anything_and_ahead_of_no_number(self):
        for k in ALL_K:
            for row in no_lines(k):
                self.check_all(NoLine, k, row)

    def test_no_number_of_anything(self):
        for row in ("", "?", "??", "()", ")(", "(" * 20, "?" * 39, "?" * 40, "(" * 40):
            for m in no_numbers_below(41 - len(row)):
                with self.assertRaises(NoNumber, msg=(row, m)):
                    how_many_with(2, row, m)

    def test_as_many_as_forty_let_and_one_more(self):
        for k in ALL_K:
            for many in range(41):
                for row in ("?" * many, ")" * many):
                    self.assertIs(type(how_many_with(k, row, 40 - many)), int)
                    for m in (41 - many, -1, True, False):
                        with self.assertRaises(NoNumber, msg=(k, row, m)):
                            how_many_with(k, row, m)

    def test_a_refusal_changes_nothing(self):
        thing = ["(", ["?"], {"a": [1]}]
        kept = copy.deepcopy(thing)
        self.check_all(NoLine, 1, thing, (thing,))
        self.check_all(NoKinds, thing, thing, (thing,))
        with self.assertRaises(NoNumber) as caught:
            how_many_with(1, "??", thing)
        self.assertIs(type(caught.exception), NoNumber)
        self.assertTrue(str(caught.exception))
        self.assertEqual(thing, kept)
        self.assertEqual(depths(1, "??"), [0, 2])


if __name__ == "__main__":
    unittest.main()
