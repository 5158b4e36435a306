"""Promises [2], [3], [4], [12] and [13]: weights, the likeliest filling, and chances."""

import copy
import math
import unittest
from fractions import Fraction

from bracketrows.errors import NoFilling, NoKinds, NoLine, NoPlace, NoWeights
from bracketrows.fillings import how_many
from bracketrows.likely import chance, likeliest, weight_sum
from tests.helper import (
    ALL_K, BRACKETS, all_rows, by_stacks, filling_weight, fits, forty_with_fillings, forty_without_fillings,
    is_right_by_taking_away, no_brackets, no_kinds, no_lines, no_numbers_below, no_weights, right_fillings,
    right_rows, right_rows_that_fit, rows_that_fit, with_sign,
)

BIG = 10 ** 30 - 1


def some_weights(k):
    """Several weights by k, 0 and thirty figures among them."""
    many = 2 * k
    return [
        [1] * many, [2, 3, 5, 7, 11, 13, 17, 19][:many], [6, 4, 9, 6, 4, 10, 15, 6][:many], [0] * many,
        [0, 1, 2, 3, 4, 5, 6, 7][:many], [3, 0, 2, 5, 0, 4, 1, 1][:many], [1, 2, 2, 1, 1, 2, 2, 1][:many],
        [BIG - 7 * place for place in range(many)], [BIG, 0, 1, BIG, BIG, 1, 0, BIG][:many],
    ]


def likeliest_one_by_one(row, weights, fillings):
    """The likeliest of fillings that are handed in in their order."""
    best = None
    for filling in fillings:
        weight = filling_weight(row, filling, weights)
        if weight > 0 and (best is None or weight > best[0]):
            best = (weight, filling)
    return best


class OneByOne(unittest.TestCase):
    def check_row(self, k, row, weights, fillings):
        in_all = sum(filling_weight(row, filling, weights) for filling in fillings)
        self.assertEqual(weight_sum(k, row, weights), in_all, (k, row, weights))
        best = likeliest_one_by_one(row, weights, fillings)
        self.assertEqual(likeliest(k, row, weights), best, (k, row, weights))
        return in_all

    def check_chances(self, k, row, weights, fillings, in_all):
        for i in range(len(row)):
            for bracket in BRACKETS[:2 * k]:
                if in_all == 0:
                    with self.assertRaises(NoFilling, msg=(k, row, weights)):
                        chance(k, row, weights, i, bracket)
                    continue
                having = [one for one in fillings if one[i] == bracket]
                part = Fraction(sum(filling_weight(row, one, weights) for one in having), in_all)
                told = chance(k, row, weights, i, bracket)
                self.assertEqual(told, (part.numerator, part.denominator), (k, row, weights, i, bracket))

    def test_all_short_rows_sign_by_sign(self):
        for k, longest in ((1, 6), (2, 4), (3, 4), (4, 3)):
            for row in all_rows(k, longest):
                fillings = right_fillings(k, row)
                for weights in some_weights(k):
                    self.check_row(k, row, weights, fillings)

    def test_chances_of_short_rows_sign_by_sign(self):
        for k, longest in ((1, 5), (2, 4), (3, 2), (4, 2)):
            for row in all_rows(k, longest):
                fillings = right_fillings(k, row)
                for weights in some_weights(k)[1:6]:
                    self.check_chances(k, row, weights, fillings, weight_sum(k, row, weights))

    def test_longer_rows_by_all_right_rows(self):
        for k, many, step in ((1, 10, 1), (2, 8, 61), (3, 6, 11), (4, 6, 61)):
            right = [row for row in right_rows(k, many) if len(row) == many]
            for row in rows_that_fit(right)[::step] + ["?" * many]:
                fillings = right_rows_that_fit(row, right)
                for weights in some_weights(k):
                    self.check_row(k, row, weights, fillings)
                for weights in some_weights(k)[2:8:3]:
                    in_all = self.check_row(k, row, weights, fillings)
                    self.check_chances(k, row, weights, fillings, in_all)


class Sums(unittest.TestCase):
    def test_ordinary_rows(self):
        for k, row, weights, told in (
            (1, "??", [2, 3], 6), (1, "(?", [2, 3], 3), (1, "?)", [2, 3], 2), (1, "()", [2, 3], 1), (1, "", [2, 3], 1),
            (1, ")?", [2, 3], 0), (2, "??", [2, 3, 5, 7], 41), (2, "(??)", [2, 3, 5, 7], 47), (1, "????", [2, 3], 72),
            (2, "?]", [2, 3, 5, 7], 5), (2, "??", [0, 3, 5, 7], 35), (2, "??", [0, 3, 5, 0], 0),
        ):
            self.assertEqual(weight_sum(k, row, weights), told, (row, weights))

    def test_a_row_without_an_unknown_one_weighs_1(self):
        for weights in ([0, 0], [7, 9]):
            self.assertEqual(weight_sum(1, "(())", weights), 1)
            self.assertEqual(likeliest(1, "(())", weights), (1, "(())"))
            self.assertEqual(weight_sum(1, "", weights), 1)
            self.assertEqual(likeliest(1, "", weights), (1, ""))
            self.assertEqual(weight_sum(1, ")(", weights), 0)
            self.assertIsNone(likeliest(1, ")(", weights))

    def test_forty_signs_by_a_second_way(self):
        for k in ALL_K:
            for row in forty_with_fillings(k):
                self.assertEqual(weight_sum(k, row, [1] * (2 * k)), how_many(k, row))
                for weights in some_weights(k):
                    self.assertEqual(weight_sum(k, row, weights), by_stacks(k, row, weights), (row, weights))
            for row in forty_without_fillings(k):
                for weights in some_weights(k):
                    self.assertEqual(weight_sum(k, row, weights), 0, (row, weights))
                    self.assertIsNone(likeliest(k, row, weights))

    def test_a_whole_number(self):
        for row in ("", "?", "??", "()"):
            self.assertIs(type(weight_sum(1, row, [2, 3])), int)


class Likeliest(unittest.TestCase):
    def test_ordinary_rows(self):
        for k, row, weights, told in (
            (1, "??", [2, 3], (6, "()")), (2, "??", [2, 3, 5, 7], (35, "[]")), (2, "??", [5, 7, 2, 3], (35, "()")),
            (2, "(?", [2, 3, 5, 7], (3, "()")), (2, "(??]", [2, 3, 5, 7], (15, "()[]")),
            (4, "??", [1, 1, 1, 1, 1, 1, 2, 1], (2, "<>")), (1, "?", [2, 3], None), (1, ")?", [2, 3], None),
            (2, "??", [0, 9, 9, 0], None), (2, "??", [0, 9, 1, 1], (1, "[]")), (2, "(?", [0, 1, 0, 0], (1, "()")),
        ):
            self.assertEqual(likeliest(k, row, weights), told, (row, weights))

    def test_of_several_as_likely_the_first(self):
        for k in ALL_K:
            self.assertEqual(likeliest(k, "??", [3] * (2 * k)), (9, "()"))
            self.assertEqual(likeliest(k, "????", [1] * (2 * k)), (1, "(())"))
        self.assertEqual(likeliest(2, "??", [1, 6, 2, 3]), (6, "()"))
        self.assertEqual(likeliest(2, "????", [1, 1, 2, 2]), (16, "[[]]"))
        self.assertEqual(likeliest(4, "????", [1, 1, 1, 1, 2, 3, 3, 2]), (36, "{{}}"))
        self.assertEqual(likeliest(2, "(????)", [1, 6, 2, 3]), (36, "((()))"))

    def test_kinds_of_what_is_told(self):
        told = likeliest(2, "??", [1, 1, 1, 1])
        self.assertIs(type(told), tuple)
        self.assertEqual([type(part) for part in told], [int, str])

    def test_forty_signs_by_a_second_way(self):
        for k in ALL_K:
            for row in forty_with_fillings(k):
                for weights in some_weights(k):
                    greatest = by_stacks(k, row, weights, max)
                    told = likeliest(k, row, weights)
                    if greatest == 0:
                        self.assertIsNone(told)
                        continue
                    self.assertEqual(told[0], greatest, (row, weights))
                    self.assertTrue(fits(row, told[1]) and is_right_by_taking_away(told[1]), (row, weights))
                    self.assertEqual(filling_weight(row, told[1], weights), greatest, (row, weights))

    def test_forty_signs_none_ahead_weighs_as_much(self):
        for k in (1, 2, 4):
            for row in forty_with_fillings(k)[::3]:
                for weights in some_weights(k)[2::4]:
                    told = likeliest(k, row, weights)
                    if told is not None:
                        self.check_first(k, row, weights, told)

    def check_first(self, k, row, weights, told):
        weight, filling = told
        for at, bracket in enumerate(filling):
            if row[at] == "?":
                for earlier in BRACKETS[:BRACKETS.index(bracket)]:
                    begun = filling[:at] + earlier
                    other = filling_weight(row[:at + 1], begun, weights) * by_stacks(
                        k, begun + row[at + 1:], weights, max)
                    self.assertLess(other, weight, (row, weights, begun))


class Chances(unittest.TestCase):
    def test_ordinary_rows(self):
        for k, row, weights, i, bracket, told in (
            (1, "??", [2, 3], 0, "(", (1, 1)), (1, "??", [2, 3], 0, ")", (0, 1)),
            (2, "??", [1] * 4, 0, "(", (1, 2)), (2, "(??)", [1] * 4, 2, "]", (1, 3)),
            (2, "??", [2, 3, 5, 7], 1, "]", (35, 41)), (2, "??", [2, 2, 2, 4], 0, "(", (1, 3)),
            (2, "??", [0, 5, 3, 3], 0, "[", (1, 1)), (2, "??", [0, 5, 3, 3], 0, "(", (0, 1)),
            (1, "????", [4, 9], 1, "(", (1, 2)), (4, "??", [1] * 8, 1, ">", (1, 4)),
        ):
            self.assertEqual(chance(k, row, weights, i, bracket), told, (row, weights, i, bracket))

    def test_of_a_bracket_that_the_row_has(self):
        for k, row, weights in ((2, "(??)", [1, 2, 3, 4]), (2, "()", [0, 0, 0, 0]), (2, "(?", [0, 1, 0, 0])):
            for bracket in "()[]":
                self.assertEqual(chance(k, row, weights, 0, bracket), (1, 1) if bracket == "(" else (0, 1))

    def test_nothing_above_1_divides_both(self):
        for k in ALL_K:
            for row in ("??", "????", "?" * 6, "(??)??", "?" * 40):
                for weights in some_weights(k):
                    for bracket in BRACKETS[:2 * k] if weight_sum(k, row, weights) else "":
                        told = chance(k, row, weights, 1, bracket)
                        self.assertIs(type(told), tuple)
                        self.assertEqual([type(part) for part in told], [int, int])
                        self.assertEqual(math.gcd(*told), 1)
                        self.assertGreater(told[1], 0)

    def test_forty_signs_by_a_second_way(self):
        for k in ALL_K:
            for row in forty_with_fillings(k)[k % 2::2]:
                for weights in some_weights(k)[2:9:3]:
                    in_all = by_stacks(k, row, weights)
                    for i in (0, 17, 39) if in_all else ():
                        self.check_place(k, row, weights, i, in_all)

    def check_place(self, k, row, weights, i, in_all):
        chances = 0
        for at, bracket in enumerate(BRACKETS[:2 * k]):
            told = chance(k, row, weights, i, bracket)
            part = Fraction(int(row[i] == bracket))
            if row[i] == "?":
                part = Fraction(weights[at] * by_stacks(k, with_sign(row, i, bracket), weights), in_all)
            self.assertEqual(told, (part.numerator, part.denominator), (row, weights, i, bracket))
            chances += part
        self.assertEqual(chances, 1)


class HandedIn(unittest.TestCase):
    def asked(self, weights):
        return [weight_sum(2, "(??)??", weights), likeliest(2, "(??)??", weights), chance(2, "(??)??", weights, 1, "[")]

    def test_weights_stay_as_they_are(self):
        for weights in some_weights(2)[:3]:
            kept = list(weights)
            self.asked(weights)
            self.assertEqual(weights, kept)

    def test_weights_that_are_changed_later_count_as_they_then_are(self):
        weights = [1, 1, 1, 1]
        first = self.asked(weights)
        weights[2] = 5
        second = self.asked(weights)
        self.assertNotEqual(first, second)
        self.assertEqual(second, self.asked([1, 1, 5, 1]))
        weights[2] = 1
        self.assertEqual(self.asked(weights), first)
        weights.append(1)
        for asked in ((weight_sum, ()), (likeliest, ()), (chance, (0, "("))):
            with self.assertRaises(NoWeights):
                asked[0](2, "??", weights, *asked[1])


class Refusals(unittest.TestCase):
    def check_all(self, refused, k, row, weights, lasts=((0, "("),)):
        for asked in (weight_sum, likeliest):
            with self.assertRaises(refused, msg=(asked, k, row, weights)):
                asked(k, row, weights)
        for last in lasts:
            with self.assertRaises(refused, msg=(k, row, weights, last)):
                chance(k, row, weights, *last)

    def test_no_kinds_of_any_k_and_ahead_of_all_else(self):
        for k in no_kinds():
            for row in ("", "??", "x", None, []):
                for weights in ([1, 1], [1], None, [True, 1], "11"):
                    self.check_all(NoKinds, k, row, weights, ((0, "("), (99, "("), (0, "x"), (None, None)))

    def test_no_line_of_anything_and_ahead_of_the_rest(self):
        for k in ALL_K:
            for row in no_lines(k):
                for weights in ([1] * (2 * k), [1], None, [-1] * (2 * k)):
                    self.check_all(NoLine, k, row, weights, ((0, "("), (99, "("), (0, "x"), (None, None)))

    def test_no_weights_of_anything_and_ahead_of_the_rest(self):
        for k in ALL_K:
            for weights in no_weights(k):
                for row in ("", "??", ")("):
                    self.check_all(NoWeights, k, row, weights, ((0, "("), (99, "("), (0, "x"), (None, None)))

    def test_weights_of_other_kinds_of_brackets(self):
        for k in ALL_K:
            for other in ALL_K:
                if other != k:
                    self.check_all(NoWeights, k, "??", [1] * (2 * other))

    def test_no_place_of_anything_and_ahead_of_no_filling(self):
        for k in (1, 4):
            for row in ("", "??", ")(", "(", "?" * 40):
                for i in no_numbers_below(len(row)):
                    for weights in ([1] * (2 * k), [0] * (2 * k)):
                        for bracket in ("(", "x", None):
                            with self.assertRaises(NoPlace, msg=(row, i)):
                                chance(k, row, weights, i, bracket)

    def test_no_place_of_any_bracket_that_is_none(self):
        for k in ALL_K:
            for bracket in no_brackets(k):
                for row in ("??", "()", ")("):
                    for weights in ([1] * (2 * k), [0] * (2 * k)):
                        with self.assertRaises(NoPlace, msg=(k, row, bracket)):
                            chance(k, row, weights, 1, bracket)

    def test_no_filling_behind_all_else(self):
        for k, row, weights in (
            (1, ")(", [1, 1]), (1, "?", [1, 1]), (1, "??", [0, 1]), (1, "(?", [1, 0]), (2, "??", [0, 1, 1, 0]),
            (2, "(]", [1, 1, 1, 1]), (1, "????", [0, 0]),
        ):
            for bracket in BRACKETS[:2 * k]:
                with self.assertRaises(NoFilling, msg=(row, weights, bracket)):
                    chance(k, row, weights, 0, bracket)

    def test_a_refusal_changes_nothing(self):
        thing = [1, [1], {"a": [1]}]
        kept = copy.deepcopy(thing)
        self.check_all(NoWeights, 1, "??", thing)
        self.check_all(NoLine, 1, thing, thing)
        self.check_all(NoKinds, thing, thing, thing)
        with self.assertRaises(NoPlace) as caught:
            chance(1, "??", [1, 1], thing, thing)
        self.assertIs(type(caught.exception), NoPlace)
        self.assertTrue(str(caught.exception))
        self.assertEqual(thing, kept)
        self.assertEqual(chance(1, "??", [1, 1], 0, "("), (1, 1))


if __name__ == "__main__":
    unittest.main()
