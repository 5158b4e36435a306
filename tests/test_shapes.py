"""Promises [2], [3], [7] and [8]: depth, parts, turned rows and trees."""

import copy
import unittest

from bracketrows.errors import NoKinds, NoLine, NotRight, NoTree
from bracketrows.shapes import depth, is_tree, parts, row_of_tree, tree_of, turned
from tests.helper import (
    ALL_K, BRACKETS, all_rows, deep_tree, doubling, flat_tree, holds_itself, is_right_by_taking_away,
    lists_within, no_kinds, no_lines, no_trees, right_rows,
)

OF_RIGHT_ROWS = (depth, parts, tree_of)
SHORT = ((1, 10), (2, 8), (3, 6), (4, 6))


class Depth(unittest.TestCase):
    def test_ordinary_rows(self):
        for k, row, told in (
            (1, "", 0), (4, "", 0), (1, "()", 1), (1, "()()()", 1), (1, "(())()", 2), (1, "()(())", 2),
            (2, "[()]([()])", 3), (3, "{}{[()]}()", 3), (4, "<{[()]}>", 4),
        ):
            self.assertEqual(depth(k, row), told, row)

    def test_forty_signs(self):
        self.assertEqual(depth(1, "(" * 20 + ")" * 20), 20)
        self.assertEqual(depth(4, "<>" * 20), 1)

    def test_a_whole_number(self):
        for row in ("", "()"):
            self.assertIs(type(depth(1, row)), int)

    def test_all_short_right_rows(self):
        for k, longest in SHORT:
            for row in right_rows(k, longest):
                standing = [
                    sum(1 if sign in "([{<" else -1 for sign in row[:many]) for many in range(len(row) + 1)]
                self.assertEqual(depth(k, row), max(standing), row)


class Parts(unittest.TestCase):
    def test_ordinary_rows(self):
        for k, row, told in (
            (1, "", []), (4, "", []), (1, "()", ["()"]), (1, "()()", ["()", "()"]), (1, "(())()", ["(())", "()"]),
            (2, "[()]([])[]", ["[()]", "([])", "[]"]), (4, "<{}>{}", ["<{}>", "{}"]), (4, "<{}{}>", ["<{}{}>"]),
        ):
            self.assertEqual(parts(k, row), told, row)

    def test_forty_signs(self):
        self.assertEqual(parts(1, "()" * 20), ["()"] * 20)
        self.assertEqual(parts(1, "(" * 20 + ")" * 20), ["(" * 20 + ")" * 20])

    def test_kinds_of_what_is_told(self):
        self.assertIs(type(parts(1, "()()")), list)
        self.assertEqual({type(part) for part in parts(1, "()()")}, {str})

    def test_all_short_right_rows(self):
        for k, longest in SHORT:
            for row in right_rows(k, longest):
                told = parts(k, row)
                self.assertEqual("".join(told), row)
                for part in told:
                    self.assertTrue(part)
                    self.assertTrue(is_right_by_taking_away(part))
                    shorter = [part[:many] for many in range(1, len(part))]
                    self.assertFalse([begun for begun in shorter if is_right_by_taking_away(begun)], part)

    def test_a_told_list_is_the_askers_own(self):
        for row in ("", "()[]"):
            first = parts(2, row)
            kept = list(first)
            second = parts(2, row)
            self.assertIsNot(first, second)
            first.append("x")
            first[0] = "y"
            self.assertEqual(second, kept)
            self.assertEqual(parts(2, row), kept)


class Turned(unittest.TestCase):
    def test_ordinary_rows(self):
        for k, row, told in (
            (1, "", ""), (4, "", ""), (1, "?", "?"), (1, "(", ")"), (1, ")", "("), (1, "()", "()"), (1, ")(", ")("),
            (1, "(()", "())"), (2, "[()", "()]"), (2, "(?]", "[?)"), (4, "<{[(", ")]}>"), (4, ")]}>", "<{[("),
            (4, "(?[??", "??]?)"), (3, "{{?", "?}}"),
        ):
            self.assertEqual(turned(k, row), told, row)

    def test_forty_signs(self):
        self.assertEqual(turned(1, "(" * 40), ")" * 40)
        self.assertEqual(turned(4, "<" * 39 + "?"), "?" + ">" * 39)
        self.assertEqual(turned(1, "?" * 40), "?" * 40)

    def test_all_short_rows(self):
        swap = str.maketrans("()[]{}<>", ")(][}{><")
        for k, longest in ((1, 7), (2, 5), (3, 4), (4, 4)):
            for row in all_rows(k, longest):
                told = turned(k, row)
                self.assertIs(type(told), str)
                self.assertEqual(told, row[::-1].translate(swap))
                self.assertEqual(turned(k, told), row)
                self.assertEqual(is_right_by_taking_away(told), is_right_by_taking_away(row))


class Judged(unittest.TestCase):
    def test_ordinary_trees(self):
        for k, tree in (
            (1, []), (4, []), (1, [(0, [])]), (1, [(0, [(0, [])]), (0, [])]), (2, [(1, [(0, []), (1, [])])]),
            (3, [(2, []), (0, [(1, [])])]), (4, [(3, [(2, [(1, [(0, [])])])])]),
        ):
            self.assertIs(is_tree(k, tree), True, tree)

    def test_each_kind_by_each_k(self):
        for k in ALL_K:
            for kind in range(-2, 7):
                self.assertIs(is_tree(k, [(kind, [])]), 0 <= kind < k, (k, kind))
                self.assertIs(is_tree(k, [(0, [(kind, [])])]), 0 <= kind < k, (k, kind))

    def test_truths_are_no_kinds(self):
        for k in ALL_K:
            for truth in (True, False):
                self.assertIs(is_tree(k, [(truth, [])]), False)
                self.assertIs(is_tree(k, [(0, []), (0, [(truth, [])])]), False)

    def test_twenty_and_twenty_one_tuples(self):
        for k in ALL_K:
            for made in (flat_tree, deep_tree):
                for kind in range(k):
                    self.assertIs(is_tree(k, made(19, kind)), True)
                    self.assertIs(is_tree(k, made(20, kind)), True)
                    self.assertIs(is_tree(k, made(21, kind)), False)
        self.assertIs(is_tree(1, [(0, flat_tree(19))]), True)
        self.assertIs(is_tree(1, [(0, flat_tree(20))]), False)
        self.assertIs(is_tree(1, [(0, flat_tree(9)), (0, deep_tree(9))]), True)
        self.assertIs(is_tree(1, [(0, flat_tree(9)), (0, deep_tree(10))]), False)

    def test_a_list_that_stands_twice_counts_twice(self):
        self.assertIs(is_tree(1, doubling(3)), True)
        self.assertIs(is_tree(1, doubling(4)), False)
        self.assertIs(is_tree(1, doubling(50)), False)
        self.assertIs(is_tree(1, holds_itself()), False)

    def test_what_is_no_tree(self):
        for k in ALL_K:
            for at, thing in enumerate(no_trees(k)):
                self.assertIs(is_tree(k, thing), False, (k, at))

    def test_what_is_handed_in_stays(self):
        for thing in ([], flat_tree(20), deep_tree(21), [(0, [None])], [[(0, [])]], {"a": [(0, [])]}):
            kept = copy.deepcopy(thing)
            self.assertEqual(is_tree(1, thing), is_tree(1, thing))
            self.assertEqual(thing, kept)


class Trees(unittest.TestCase):
    def test_ordinary_rows(self):
        for k, row, tree in (
            (1, "", []), (4, "", []), (1, "()", [(0, [])]), (1, "(())()", [(0, [(0, [])]), (0, [])]),
            (2, "[()[]]", [(1, [(0, []), (1, [])])]), (3, "{}([])", [(2, []), (0, [(1, [])])]),
            (4, "<{[()]}>", [(3, [(2, [(1, [(0, [])])])])]), (4, "<>()", [(3, []), (0, [])]),
        ):
            self.assertEqual(tree_of(k, row), tree, row)
            self.assertEqual(row_of_tree(k, tree), row)

    def test_twenty_tuples(self):
        for k in ALL_K:
            opening, closing = BRACKETS[2 * k - 2:2 * k]
            for row, tree in (
                ((opening + closing) * 20, flat_tree(20, k - 1)), (opening * 20 + closing * 20, deep_tree(20, k - 1)),
            ):
                self.assertEqual(tree_of(k, row), tree)
                self.assertEqual(row_of_tree(k, tree), row)

    def test_all_short_right_rows(self):
        for k, longest in SHORT:
            for row in right_rows(k, longest):
                tree = tree_of(k, row)
                self.assertIs(is_tree(k, tree), True, row)
                self.assertEqual(row_of_tree(k, tree), row)
                told = parts(k, row)
                self.assertEqual([BRACKETS[2 * kind] for kind, within in tree], [part[0] for part in told])
                self.assertEqual([within for kind, within in tree], [tree_of(k, part[1:-1]) for part in told])

    def test_kinds_of_what_is_told(self):
        tree = tree_of(2, "[()]")
        self.assertIs(type(tree), list)
        self.assertIs(type(tree[0]), tuple)
        self.assertIs(type(tree[0][0]), int)
        self.assertIs(type(tree[0][1]), list)
        self.assertIs(type(row_of_tree(2, tree)), str)
        self.assertIs(type(row_of_tree(2, [])), str)

    def test_every_told_list_is_a_new_one(self):
        for row in ("", "()", "()()[]", "[()()]([])", "()" * 20, "(" * 20 + ")" * 20):
            first = tree_of(2, row)
            second = tree_of(2, row)
            kept = copy.deepcopy(first)
            told = lists_within(first) + lists_within(second)
            self.assertEqual(len({id(one) for one in told}), len(told))
            for one in lists_within(first):
                one.append((0, []))
            self.assertEqual(second, kept)
            self.assertEqual(tree_of(2, row), kept)

    def test_a_told_tree_that_is_changed_is_judged_as_it_is(self):
        tree = tree_of(1, "()" * 19)
        tree[0][1].append((0, []))
        self.assertEqual(row_of_tree(1, tree), "(())" + "()" * 18)
        tree[0][1].append((0, []))
        self.assertIs(is_tree(1, tree), False)
        tree[0][1].pop()
        self.assertEqual(row_of_tree(1, tree), "(())" + "()" * 18)

    def test_a_list_that_stands_twice(self):
        self.assertEqual(row_of_tree(1, doubling(2)), "(()())(()())")

    def test_what_is_handed_in_stays(self):
        for tree in ([], [(1, [(0, []), (1, [])])], flat_tree(20), deep_tree(20), flat_tree(21), [(0, [None])]):
            kept = copy.deepcopy(tree)
            for step in range(2):
                try:
                    row_of_tree(2, tree)
                except NoTree:
                    pass
                self.assertEqual(tree, kept)


class Refusals(unittest.TestCase):
    def test_not_right(self):
        for k, longest in ((1, 6), (2, 5), (4, 3)):
            for row in all_rows(k, longest):
                if not is_right_by_taking_away(row):
                    for asked in OF_RIGHT_ROWS:
                        with self.assertRaises(NotRight, msg=(asked, row)):
                            asked(k, row)
        for row in ("(" * 40, ")" * 40, "?" * 40, "()" * 19 + "(?", "()" * 19 + ")("):
            for asked in OF_RIGHT_ROWS:
                with self.assertRaises(NotRight):
                    asked(1, row)

    def test_no_line_of_anything_and_ahead_of_not_right(self):
        for k in ALL_K:
            for thing in no_lines(k):
                for asked in OF_RIGHT_ROWS + (turned,):
                    with self.assertRaises(NoLine, msg=(asked, k, thing)):
                        asked(k, thing)

    def test_no_tree_of_anything(self):
        for k in ALL_K:
            for at, thing in enumerate(no_trees(k)):
                with self.assertRaises(NoTree, msg=(k, at)):
                    row_of_tree(k, thing)

    def test_no_kinds_of_any_k_and_ahead_of_all_else(self):
        rows = ("", "()", "(", "?", "x", "[]", "(" * 41, None, 5, True, b"()", [], (), {}, [["("]])
        trees = ([], [(0, [])], [(4, [])], [(True, [])], flat_tree(21), None, "()", 0, (), {}, [[]], b"")
        for k in no_kinds():
            for thing in rows:
                for asked in OF_RIGHT_ROWS + (turned,):
                    with self.assertRaises(NoKinds, msg=(asked, k, thing)):
                        asked(k, thing)
            for thing in trees:
                for asked in (is_tree, row_of_tree):
                    with self.assertRaises(NoKinds, msg=(asked, k, thing)):
                        asked(k, thing)

    def test_a_refusal_changes_nothing(self):
        thing = [(0, [(0, [None])])]
        kept = copy.deepcopy(thing)
        for asked in OF_RIGHT_ROWS + (turned,):
            with self.assertRaises(NoLine):
                asked(1, thing)
            with self.assertRaises(NoKinds):
                asked(thing, thing)
        self.assertEqual(thing, kept)
        self.assertEqual(tree_of(1, "()"), [(0, [])])
        self.assertEqual(row_of_tree(1, [(0, [])]), "()")

    def test_a_refusal_has_words(self):
        for refused, k, tree in ((NoKinds, 0, []), (NoTree, 1, None)):
            with self.assertRaises(refused) as caught:
                row_of_tree(k, tree)
            self.assertIs(type(caught.exception), refused)
            self.assertEqual(caught.exception.args, (str(caught.exception),))
            self.assertTrue(str(caught.exception))


if __name__ == "__main__":
    unittest.main()
