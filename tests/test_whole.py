"""Promises [1] to [4] over the whole program, and its interface."""

import copy
import importlib
import inspect
import unittest

from bracketrows import errors
from bracketrows.begun import depths, fewest_more, first_failing, how_many_with, may_go_on
from bracketrows.bynumber import nth_filling, number_of
from bracketrows.changed import fewest_changes
from bracketrows.desk import Desk
from bracketrows.fillings import can_be_right, how_many, how_many_right
from bracketrows.grower import Grower
from bracketrows.likely import chance, likeliest, weight_sum
from bracketrows.lines import is_line, is_right, partners
from bracketrows.shapes import depth, is_tree, parts, row_of_tree, tree_of, turned
from bracketrows.sure import brackets_at, sure_pairs, sure_places
from tests.helper import (
    ALL_K, BRACKETS, all_rows, changes, filling_weight, forty_with_fillings, forty_without_fillings, holds_itself,
    no_kinds, no_lines, right_rows, with_sign,
)

FUNCTIONS = {
    "lines": {"is_line": "k thing", "is_right": "k row", "partners": "k row"},
    "shapes": {
        "depth": "k row", "parts": "k row", "turned": "k row", "is_tree": "k thing", "tree_of": "k row",
        "row_of_tree": "k tree",
    },
    "fillings": {"how_many": "k row", "can_be_right": "k row", "how_many_right": "k n"},
    "bynumber": {"nth_filling": "k row i", "number_of": "k row filling"},
    "likely": {"weight_sum": "k row weights", "likeliest": "k row weights", "chance": "k row weights i bracket"},
    "sure": {"brackets_at": "k row i", "sure_places": "k row", "sure_pairs": "k row"},
    "changed": {"fewest_changes": "k row"},
    "begun": {
        "may_go_on": "k row", "first_failing": "k row", "fewest_more": "k row", "how_many_with": "k row m",
        "depths": "k row",
    },
}

GROWER = {
    "put": "self sign", "back": "self", "row": "self", "how_many": "self", "may_go_on": "self", "depths": "self",
    "fewest_more": "self",
}

# Each function that is handed a row, with what may stand behind the row, and with what is refused there.
OF_A_ROW = (
    (is_right, (), ()), (partners, (), ()), (depth, (), ()), (parts, (), ()), (turned, (), ()), (tree_of, (), ()),
    (how_many, (), ()), (can_be_right, (), ()), (nth_filling, (0,), ("x",)), (number_of, ("()",), ([],)),
    (weight_sum, ([1] * 8,), (None,)), (likeliest, ([1] * 8,), (None,)), (chance, ([1] * 8, 0, "("), (None, -1, "")),
    (brackets_at, (0,), (-1,)), (sure_places, (), ()), (sure_pairs, (), ()), (fewest_changes, (), ()),
    (may_go_on, (), ()), (first_failing, (), ()), (fewest_more, (), ()), (how_many_with, (0,), (-1,)), (depths, (), ()),
)

ANYTHING = (
    None, True, -1, 0, 41, 10 ** 29, "", "x", "()", b"()", [], ["("], [[]], (), (0, []), {}, {"a": []}, set(), object(),
    holds_itself(), [-1] * 8, [1] * 8, [True] * 8,
)


def names_of(function):
    return " ".join(inspect.signature(function).parameters)


class Interface(unittest.TestCase):
    def test_functions_and_their_arguments(self):
        for module, functions in FUNCTIONS.items():
            held = importlib.import_module("bracketrows." + module)
            for name, arguments in functions.items():
                self.assertEqual(names_of(getattr(held, name)), arguments, name)

    def test_classes_and_their_methods(self):
        self.assertEqual(names_of(Grower), "k")
        self.assertEqual(names_of(Desk), "")
        for name, arguments in GROWER.items():
            self.assertEqual(names_of(getattr(Grower, name)), arguments, name)
        self.assertEqual(names_of(Desk.say), "self row")
        self.assertEqual(names_of(Desk.names), "self")

    def test_every_function_of_a_row_is_gone_through_below(self):
        listed = {asked.__name__ for asked, good, bad in OF_A_ROW}
        self.assertEqual(listed, {
            name for functions in FUNCTIONS.values() for name, arguments in functions.items()
            if arguments.startswith("k row")})


class Refusals(unittest.TestCase):
    def refuse(self, refused, asked, *arguments):
        with self.assertRaises(refused, msg=(asked, arguments)) as caught:
            asked(*arguments)
        self.assertIs(type(caught.exception), refused, (asked, arguments))

    def test_no_kinds_ahead_of_all(self):
        for asked, good, bad in OF_A_ROW:
            for k in no_kinds():
                for row in ("", "()", ")(", "x", None):
                    self.refuse(errors.NoKinds, asked, k, row, *good)
                    self.refuse(errors.NoKinds, asked, k, row, *bad)
        for asked in (is_line, is_tree, row_of_tree, how_many_right):
            for k in no_kinds():
                for thing in ([], "", 0, None, "x", -1):
                    self.refuse(errors.NoKinds, asked, k, thing)

    def test_no_line_ahead_of_all_but_no_kinds(self):
        for asked, good, bad in OF_A_ROW:
            for row in no_lines(4):
                self.refuse(errors.NoLine, asked, 4, row, *good)
                self.refuse(errors.NoLine, asked, 4, row, *bad)

    def test_whatever_is_refused_is_a_row_error(self):
        for asked, good, bad in OF_A_ROW:
            for thing in ANYTHING:
                for arguments in ((thing, "()", *good), (4, thing, *good), *self.with_one_changed(good, thing)):
                    try:
                        asked(*arguments)
                    except errors.RowError as refusal:
                        self.assertIsNot(type(refusal), errors.RowError)
                        self.assertEqual(len(refusal.args), 1)
                        self.assertEqual(str(refusal), refusal.args[0])

    def with_one_changed(self, good, thing):
        return [(4, "()", *good[:at], thing, *good[at + 1:]) for at in range(len(good))]


class NothingIsKept(unittest.TestCase):
    def test_what_is_handed_in_is_not_changed(self):
        weights = [2, 3, 5, 7]
        tree = [(1, [(0, [])]), (0, [])]
        kept = copy.deepcopy((weights, tree))
        weight_sum(2, "(??)", weights)
        likeliest(2, "(??)", weights)
        chance(2, "(??)", weights, 1, "[")
        row_of_tree(2, tree)
        is_tree(2, tree)
        self.assertEqual((weights, tree), kept)

    def test_what_is_handed_in_is_not_kept(self):
        weights = [2, 3]
        told = weight_sum(1, "??", weights)
        weights[0] = 100
        self.assertEqual(told, 6)
        self.assertEqual(weight_sum(1, "??", [2, 3]), 6)
        self.assertEqual(weight_sum(1, "??", weights), 300)

    def test_told_lists_and_dicts_are_the_askers_own(self):
        grower, desk = Grower(2), Desk()
        desk.say("row a ()")
        for sign in "(??":
            grower.put(sign)
        for ask in (
            lambda: partners(2, "[()]"), lambda: parts(2, "[]()"), lambda: tree_of(2, "[()]"),
            lambda: brackets_at(2, "(??)", 1), lambda: sure_places(2, "(??]"), lambda: sure_pairs(2, "(??]"),
            lambda: depths(2, "(??"), lambda: depths(2, ")"), grower.depths, desk.names, Desk().names,
        ):
            first, second = ask(), ask()
            kept = copy.deepcopy(second)
            self.assertEqual(first, second)
            self.assertIsNot(first, second)
            first.clear()
            self.assertEqual(second, kept)
            self.assertEqual(ask(), kept)

    def test_what_is_told_may_be_handed_in(self):
        for row in right_rows(2, 6):
            self.assertEqual(row_of_tree(2, tree_of(2, row)), row)
            self.assertEqual(turned(2, turned(2, row)), row)
            self.assertEqual(sum(len(part) for part in parts(2, row)), len(row))
            self.assertEqual(fewest_changes(2, row), (0, row))
            self.assertEqual(depths(2, row), [0])
            desk = Desk()
            desk.say("row a " + row)
            self.assertEqual(desk.say("right a"), "yes")


class TheWhole(unittest.TestCase):
    """Promise [4], by what the stages tell of one another."""

    def some_rows(self):
        for k, longest, step in ((1, 6, 1), (2, 4, 1), (3, 4, 5), (4, 4, 7)):
            for row in all_rows(k, longest)[::step]:
                yield k, row

    def test_as_many_as_told_each_with_just_one_number(self):
        for k, row in self.some_rows():
            many = how_many(k, row)
            fillings = [nth_filling(k, row, i) for i in range(many)]
            self.assertEqual(len(set(fillings)), many)
            self.assertEqual([number_of(k, row, one) for one in fillings], list(range(many)))
            self.assertTrue(all(is_right(k, one) and changes(row, one) == 0 for one in fillings))
            self.assertEqual(how_many_with(k, row, 0), many)
            self.assertIs(can_be_right(k, row), many > 0)
            self.assertEqual(many > 0, 0 in depths(k, row))

    def test_none_weighs_more_than_the_likeliest(self):
        for k, row in self.some_rows():
            weights = [(3 * at * at + 2) % 7 for at in range(2 * k)]
            all_of_them = [
                filling_weight(row, nth_filling(k, row, i), weights) for i in range(how_many(k, row))]
            best = likeliest(k, row, weights)
            self.assertEqual(0 if best is None else best[0], max(all_of_them, default=0), (k, row))
            self.assertEqual(weight_sum(k, row, weights), sum(all_of_them))

    def test_what_is_sure_is_so_in_all_and_what_is_not_is_otherwise_in_some(self):
        for k, row in self.some_rows():
            fillings = [nth_filling(k, row, i) for i in range(how_many(k, row))]
            if not fillings:
                continue
            sure = dict(sure_places(k, row))
            for place, sign in enumerate(row):
                there = {one[place] for one in fillings}
                self.assertEqual(set(brackets_at(k, row, place)), there)
                self.assertEqual(place in sure, sign == "?" and len(there) == 1)
                if place in sure:
                    self.assertEqual({sure[place]}, there)

    def test_with_fewer_changes_no_row_becomes_right(self):
        for k, row in self.some_rows():
            found = fewest_changes(k, row)
            if found is None:
                self.assertEqual(len(row) % 2, 1)
                continue
            self.assertEqual(found[0] == 0, can_be_right(k, row))
            self.assertEqual(changes(row, found[1]), found[0])
            if found[0] == 1:
                one_off = [with_sign(row, place, "?") for place in range(len(row)) if row[place] != "?"]
                self.assertTrue(any(can_be_right(k, other) for other in one_off))
            elif found[0] > 1:
                for place in range(len(row)):
                    self.assertFalse(can_be_right(k, with_sign(row, place, "?")), (k, row))

    def test_with_fewer_changes_no_row_of_forty_becomes_right(self):
        for k in ALL_K:
            for row in forty_without_fillings(k):
                number, right = fewest_changes(k, row)
                self.assertGreater(number, 0)
                # Each change brings the row one nearer, and none brings it two nearer.
                for place in range(40):
                    fewer = fewest_changes(k, with_sign(row, place, right[place]))[0]
                    self.assertEqual(fewer, number - (row[place] not in ("?", right[place])), (row, place))

    def test_a_grower_tells_what_is_told_of_its_row(self):
        for k, row in self.some_rows():
            grower = Grower(k)
            for sign in row:
                grower.put(sign)
            self.assertEqual(
                (grower.row(), grower.how_many(), grower.may_go_on(), grower.depths(), grower.fewest_more()),
                (row, how_many(k, row), may_go_on(k, row), depths(k, row), fewest_more(k, row)))

    def test_what_may_go_on_and_what_must_come(self):
        for k, row in self.some_rows():
            more = fewest_more(k, row)
            self.assertIs(may_go_on(k, row), more is not None)
            self.assertEqual(first_failing(k, row) is None, more is not None)
            if more is not None:
                self.assertGreater(how_many_with(k, row, more), 0)
                self.assertTrue(all(how_many_with(k, row, m) == 0 for m in range(more)))

    def test_forty_unknown_ones_of_four_kinds(self):
        row, many = "?" * 40, how_many_right(4, 40)
        self.assertEqual(how_many(4, row), many)
        self.assertEqual(number_of(4, row, nth_filling(4, row, many - 1)), many - 1)
        self.assertEqual(weight_sum(4, row, [1] * 8), many)
        self.assertEqual(likeliest(4, row, [1] * 8), (1, nth_filling(4, row, 0)))
        self.assertEqual(chance(4, row, [1] * 8, 0, "<"), (1, 4))
        self.assertEqual(sum(brackets_at(4, row, 20).values()), many)
        self.assertEqual((sure_places(4, row), sure_pairs(4, row)), ([], []))
        self.assertEqual(fewest_changes(4, row), (0, nth_filling(4, row, 0)))
        self.assertEqual(how_many_with(4, "?" * 20, 20), many)
        self.assertEqual(depths(4, row), list(range(0, 41, 2)))

    def test_the_same_asked_again_is_answered_the_same(self):
        rows = ["", "()", ")(", "(??)", "?" * 40] + forty_with_fillings(4)[:4]
        told = [self.all_told(row) for row in rows]
        self.assertEqual([self.all_told(row) for row in reversed(rows)], told[::-1])

    def all_told(self, row):
        answers = []
        for asked, good, bad in OF_A_ROW:
            try:
                answers.append(asked(4, row, *good))
            except errors.RowError as refusal:
                answers.append((type(refusal), str(refusal)))
        return answers


if __name__ == "__main__":
    unittest.main()
