"""Promises [2], [3], [4] and [16]: the right row that needs the fewest changes."""

import copy
import unittest

from bracketrows.bynumber import nth_filling
from bracketrows.changed import fewest_changes
from bracketrows.errors import NoKinds, NoLine
from bracketrows.fillings import can_be_right
from tests.helper import (
    ALL_K, BRACKETS, all_rows, changes, forty_with_fillings, forty_without_fillings, in_order, is_right_by_taking_away,
    no_kinds, no_lines, right_rows,
)

FAR = 1000


def fewest_by_right_rows(row, right):
    """The first of right rows, which are in their order, that needs the fewest changes, gone through one by one."""
    return min(((changes(row, one), at) for at, one in enumerate(right)), default=None)


def cost_at(row, choices, place, bracket):
    if bracket not in choices[place]:
        return FAR
    return int(row[place] not in ("?", bracket))


def fewest_by_halves(k, row, choices):
    """A second way to the number alone: a right row is a pair round one, or two of them side by side.

    At each place only a bracket of its choices may stand; FAR or more is told where there is no right row.
    """
    many = len(row)
    costs = {(start, start): 0 for start in range(many + 1)}
    for length in range(2, many + 1, 2):
        for start in range(many - length + 1):
            stop = start + length
            pair = min(
                cost_at(row, choices, start, BRACKETS[2 * kind])
                + cost_at(row, choices, stop - 1, BRACKETS[2 * kind + 1])
                for kind in range(k)
            )
            halves = [costs[start, middle] + costs[middle, stop] for middle in range(start + 2, stop, 2)]
            costs[start, stop] = min([FAR, pair + costs[start + 1, stop - 1]] + halves)
    return costs[0, many]


def fewest_by_stacks(k, row):
    """A third way to the number alone: sign by sign from the left, for each stack of what is not yet closed."""
    stacks = {(): 0}
    for at, sign in enumerate(row):
        here = [int(sign not in ("?", bracket)) for bracket in BRACKETS[:2 * k]]
        opening, closing = tuple(here[::2]), here[1::2]
        found = {}
        for stack, cost in stacks.items():
            if len(stack) < len(row) - at:
                longer = stack + (opening,)
                found[longer] = min(found.get(longer, FAR), cost)
            if stack:
                pair = min(first + last for first, last in zip(stack[-1], closing))
                found[stack[:-1]] = min(found.get(stack[:-1], FAR), cost + pair)
        stacks = found
    return stacks[()]


def fewest_of_one_kind(row):
    """The known number for one kind without ?: what is left, )) .. ((, when all pairs are taken away."""
    before = None
    while row != before:
        before, row = row, row.replace("()", "")
    return (row.count(")") + 1) // 2 + (row.count("(") + 1) // 2


def mixed_rows(k):
    """Rows of forty signs by k, few of which have a right filling."""
    signs = BRACKETS[:2 * k]
    backward = signs[::-1]
    return [
        (signs[::2] * 40)[:40], (signs[1::2] * 40)[:40], (backward * 40)[:40], ((signs[1::2] + signs[::2]) * 20)[:40],
        "".join((signs + "?")[place * place % (2 * k + 1)] for place in range(40)),
        "".join((signs + "??")[(place * place * 3 + place * 7 + 5) // 4 % (2 * k + 2)] for place in range(40)),
        "".join(signs[(place * place * 5 + place * 3 + 1) // 3 % (2 * k)] for place in range(40)),
    ]


def block_rows(k):
    """Rows of forty signs by k of few blocks of the same sign each."""
    opening, closing = BRACKETS[2 * k - 2:2 * k]
    return [
        "(" * 40, closing * 40, closing * 20 + "(" * 20, "(" * 13 + closing * 27, "?" * 10 + closing * 20 + "?" * 10,
        opening * 15 + "?" * 5 + ")" * 20, ")" * 9 + "?" * 11 + opening * 20, "(" * 11 + opening * 10 + ")" * 19,
        closing * 7 + "(" * 7 + "?" * 19 + opening * 7,
    ]


class Ordinary(unittest.TestCase):
    def test_rows_told_by_hand(self):
        for k, row, told in (
            (1, "", (0, "")), (4, "", (0, "")), (1, "()", (0, "()")), (1, ")(", (2, "()")), (1, "((", (1, "()")),
            (1, "))", (1, "()")), (2, "[)", (1, "()")), (2, "[[", (1, "[]")), (2, "][", (2, "()")),
            (4, "><", (2, "()")), (4, ">>", (1, "<>")), (1, ")()(", (2, "(())")), (2, "[(])", (2, "(())")),
            (2, "]]]]", (2, "[[]]")), (2, "[[[[", (2, "[[]]")),
            (1, "((((", (2, "(())")), (1, "))((", (2, "()()")), (2, "(]", (1, "()")), (2, "?]", (0, "[]")),
            (2, "[?", (0, "[]")), (2, "??", (0, "()")), (2, "]?", (1, "()")), (2, "?[", (1, "()")),
            (2, "[?[?", (0, "[][]")), (4, "<(>)", (2, "(())")), (2, "[]](", (2, "[[]]")), (3, "{{", (1, "{}")),
            (2, "([)]", (2, "(())")),
        ):
            self.assertEqual(fewest_changes(k, row), told, row)

    def test_a_row_that_has_a_right_filling_needs_none_and_tells_the_first(self):
        for k, longest in ((1, 6), (2, 4), (3, 4), (4, 4)):
            for row in all_rows(k, longest):
                if can_be_right(k, row):
                    self.assertEqual(fewest_changes(k, row), (0, nth_filling(k, row, 0)), (k, row))
        for k in ALL_K:
            for row in forty_with_fillings(k):
                self.assertEqual(fewest_changes(k, row), (0, nth_filling(k, row, 0)), (k, row))

    def test_none_of_an_odd_length(self):
        for k in ALL_K:
            for many in range(1, 40, 2):
                for sign in "?" + BRACKETS[:2 * k]:
                    self.assertIsNone(fewest_changes(k, sign * many))
                self.assertIsNone(fewest_changes(k, "(" + "?)" * (many // 2)))

    def test_none_of_no_even_length(self):
        for k in ALL_K:
            for many in range(0, 41, 2):
                for sign in "?" + BRACKETS[:2 * k]:
                    number, right = fewest_changes(k, sign * many)
                    self.assertEqual(number, 0 if sign == "?" else many // 2)
                    self.assertTrue(is_right_by_taking_away(right))

    def test_kinds_of_what_is_told(self):
        for row in ("", "()", "??", ")(", "(?[["):
            told = fewest_changes(2, row)
            self.assertIs(type(told), tuple)
            self.assertEqual([type(one) for one in told], [int, str])

    def test_told_again_the_same(self):
        for row in ("", ")(", "(]?[", ")" * 40, "?" * 40):
            self.assertEqual(fewest_changes(2, row), fewest_changes(2, row))


class ByAllRightRows(unittest.TestCase):
    def test_all_short_rows(self):
        for k, longest in ((1, 8), (2, 4), (3, 4), (4, 4)):
            right = in_order(right_rows(k, longest))
            by_length = {many: [one for one in right if len(one) == many] for many in range(longest + 1)}
            for row in all_rows(k, longest):
                self.check_row(k, row, by_length[len(row)])

    def test_some_longer_rows(self):
        for k, many, step in ((1, 10, 61), (2, 6, 13), (3, 6, 541), (4, 6, 2503)):
            right = [one for one in in_order(right_rows(k, many)) if len(one) == many]
            rows = [row for row in all_rows(k, many)[::step] if len(row) == many]
            self.assertGreater(len(rows), 100)
            for row in rows:
                self.check_row(k, row, right)

    def check_row(self, k, row, right):
        best = fewest_by_right_rows(row, right)
        told = None if best is None else (best[0], right[best[1]])
        self.assertEqual(fewest_changes(k, row), told, (k, row))


class FortySigns(unittest.TestCase):
    def check_number(self, k, row, number, right):
        self.assertEqual(len(right), 40)
        self.assertTrue(is_right_by_taking_away(right), (row, right))
        self.assertLessEqual(set(right), set(BRACKETS[:2 * k]))
        self.assertEqual(changes(row, right), number, (row, right))

    def check_first(self, k, row, number, right):
        anything = BRACKETS[:2 * k]
        for at, bracket in enumerate(right):
            earlier = anything[:anything.index(bracket)]
            if earlier:
                choices = list(right[:at]) + [earlier] + [anything] * (39 - at)
                self.assertGreater(fewest_by_halves(k, row, choices), number, (row, right, at))

    def test_by_a_second_way(self):
        for k in ALL_K:
            for row in mixed_rows(k) + forty_without_fillings(k):
                number, right = fewest_changes(k, row)
                self.check_number(k, row, number, right)
                self.assertEqual(number, fewest_by_halves(k, row, [BRACKETS[:2 * k]] * 40), row)

    def test_the_first_one_by_a_second_way(self):
        for k in ALL_K:
            for row in mixed_rows(k)[k % 3::3] + forty_without_fillings(k)[k::5]:
                self.check_first(k, row, *fewest_changes(k, row))

    def test_by_a_third_way(self):
        for k in ALL_K:
            for row in block_rows(k) + forty_with_fillings(k)[:6]:
                number, right = fewest_changes(k, row)
                self.check_number(k, row, number, right)
                self.assertEqual(number, fewest_by_stacks(k, row), row)

    def test_one_kind_by_what_is_known(self):
        rows = mixed_rows(1) + block_rows(1) + [
            "".join("()"[(place * place + place * shift) // 5 % 2] for place in range(40)) for shift in range(60)]
        for row in rows:
            if "?" not in row:
                self.assertEqual(fewest_changes(1, row)[0], fewest_of_one_kind(row), row)

    def test_told_by_hand(self):
        for k in ALL_K:
            opening, closing = BRACKETS[2 * k - 2:2 * k]
            self.assertEqual(fewest_changes(k, opening * 40), (20, opening * 20 + closing * 20))
            self.assertEqual(fewest_changes(k, closing * 40), (20, opening * 20 + closing * 20))
            self.assertEqual(fewest_changes(k, ")(" * 20), (2, "(" + "()" * 19 + ")"))
            self.assertEqual(fewest_changes(k, ")" + "?" * 39), (1, "(" * 20 + ")" * 20))
            self.assertEqual(fewest_changes(k, "?" * 39 + opening)[0], 1)
        self.assertEqual(fewest_changes(4, "([{<" * 10), (20, "(){}" * 10))


class Refusals(unittest.TestCase):
    def test_no_kinds_of_any_k_and_ahead_of_all_else(self):
        for k in no_kinds():
            for row in ("", "??", ")(", "(", "x", "(" * 41, None, [], True, b"()"):
                with self.assertRaises(NoKinds, msg=(k, row)):
                    fewest_changes(k, row)

    def test_no_line_of_anything(self):
        for k in ALL_K:
            for row in no_lines(k):
                with self.assertRaises(NoLine, msg=(k, row)):
                    fewest_changes(k, row)

    def test_a_refusal_changes_nothing(self):
        thing = ["(", ["?"], {"a": [1]}]
        kept = copy.deepcopy(thing)
        for refused, k, row in ((NoLine, 1, thing), (NoKinds, thing, "??"), (NoKinds, thing, thing)):
            with self.assertRaises(refused) as caught:
                fewest_changes(k, row)
            self.assertIs(type(caught.exception), refused)
            self.assertTrue(str(caught.exception))
            self.assertEqual(thing, kept)
        self.assertEqual(fewest_changes(1, ")("), (2, "()"))


if __name__ == "__main__":
    unittest.main()
