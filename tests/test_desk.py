"""Promises [2], [3], [4], [21] and [22]: the desk."""

import unittest

from bracketrows.begun import fewest_more, may_go_on
from bracketrows.bynumber import nth_filling, number_of
from bracketrows.changed import fewest_changes
from bracketrows.desk import Desk
from bracketrows.errors import NoFilling, NoKinds, NoLine, NoName, NoNumber, NoRow, NotRight
from bracketrows.fillings import how_many
from bracketrows.lines import is_right
from bracketrows.shapes import turned
from bracketrows.sure import sure_places
from tests.helper import (
    ALL_K, BRACKETS, all_rows, forty_with_fillings, forty_without_fillings, lists, no_lines, numbers, of_other_kinds,
    right_fillings,
)

WORDS = (
    "kinds", "row", "turn", "behind", "drop", "show", "right", "may", "many", "nth", "number", "sure", "fewest",
    "more", "names",
)

# Rows of words of a right form, by names that stand on the desk of `laid`.
WELL_FORMED = (
    "kinds 3", "row a ()", "row new ", "turn a b", "turn new b", "behind a b c", "behind new a b", "drop a", "show a",
    "right a", "may a", "many a", "nth a 0", "number b ()", "sure a", "fewest a", "more a", "names",
)

NO_NAMES = (
    "", "A", "aB", "Ab", "a1", "1", "a_b", "a-b", "abcdefghi", "a" * 9, "a" * 40, "a.", "?", "()", "a\t", "\ta", "a\n",
    "\n", "\t", "0",
)

NO_FIGURES = (
    "", "00", "01", "007", "0000000001", "1234567890", "1" * 10, "9" * 30, "+1", "-1", "-0", "1.0", "1_0", "0x1", "a",
    "x", "1x", "one", "1\n", "1\t", "\t1", "?", "1a", "a1", "()", "1,", "None", "True",
)


def laid(k=2, **rows):
    """A desk of k kinds with rows by names; `probe` tells by `many` how many kinds there are."""
    desk = Desk()
    desk.say(f"kinds {k}")
    desk.say("row probe ??")
    for name, row in rows.items():
        desk.say(f"row {name} {row}")
    return desk


class DeskCase(unittest.TestCase):
    def answers(self, desk, *said):
        for row, answer in said:
            told = desk.say(row)
            self.assertEqual(told, answer, row)
            self.assertIs(type(told), str)

    def held(self, desk):
        rows = {name: desk.say("show " + name) for name in desk.names()}
        kinds = desk.say("many probe") if "probe" in rows else None
        return rows, kinds, desk.say("names")

    def refuse(self, refused, desk, row):
        before = self.held(desk)
        with self.assertRaises(refused, msg=repr(row)) as caught:
            desk.say(row)
        self.assertIs(type(caught.exception), refused, repr(row))
        self.assertTrue(str(caught.exception))
        self.assertEqual(self.held(desk), before, repr(row))


class Answers(DeskCase):
    def test_at_first(self):
        desk = Desk()
        self.assertEqual(desk.names(), [])
        self.answers(desk, ("names", "none"), ("row a ?<>?", "ok"), ("many a", "4"), ("names", "a"))

    def test_kinds(self):
        desk = Desk()
        for k in (1, 2, 3, 4, 4, 1):
            self.answers(
                desk, ("row a ()", "ok"), ("row b ()", "ok"), (f"kinds {k}", "ok"), ("names", "none"),
                ("row a ??", "ok"), ("many a", str(k)), ("names", "a"))
            self.refuse(NoName, desk, "show b")
            for at, bracket in enumerate(BRACKETS):
                if at < 2 * k:
                    self.answers(desk, ("row c " + bracket, "ok"), ("show c", bracket))
                else:
                    self.refuse(NoLine, desk, "row c " + bracket)

    def test_row_and_show(self):
        desk = Desk()
        for row in ("()", "?", ")(", "([{<>}])", "?" * 40, "(" * 40, "(?" * 20):
            self.answers(desk, ("row a " + row, "ok"), ("show a", row), ("names", "a"))
        self.answers(desk, ("row a ", "ok"), ("show a", "none"), ("row b ", "ok"), ("names", "a b"))

    def test_turn(self):
        desk = laid(2, a="[(?", b="()", e="")
        self.answers(
            desk, ("turn b a", "ok"), ("show b", "?)]"), ("show a", "[(?"), ("turn new a", "ok"), ("show new", "?)]"),
            ("turn a a", "ok"), ("show a", "?)]"), ("turn a a", "ok"), ("show a", "[(?"), ("turn e e", "ok"),
            ("show e", "none"), ("turn b e", "ok"), ("show b", "none"), ("turn e a", "ok"), ("show e", "?)]"),
            ("names", "a b e new probe"))

    def test_what_was_turned_or_put_behind_stands_by_itself(self):
        desk = laid(2, a="[(", b="??")
        self.answers(
            desk, ("turn c a", "ok"), ("behind d a b", "ok"), ("row a ()", "ok"), ("drop b", "ok"), ("show c", ")]"),
            ("show d", "[(??"), ("show a", "()"))

    def test_behind(self):
        desk = laid(2, a="[(", b="??", e="")
        self.answers(
            desk, ("behind c a b", "ok"), ("show c", "[(??"), ("behind c b a", "ok"), ("show c", "??[("),
            ("show a", "[("), ("show b", "??"), ("behind a a b", "ok"), ("show a", "[(??"), ("behind a b a", "ok"),
            ("show a", "??[(??"), ("behind b b b", "ok"), ("show b", "????"), ("behind e e e", "ok"),
            ("show e", "none"), ("behind b e e", "ok"), ("show b", "none"), ("behind b e c", "ok"),
            ("show b", "??[("), ("behind b c e", "ok"), ("show b", "??[("), ("names", "a b c e probe"))

    def test_behind_of_up_to_forty(self):
        desk = laid(1, half="(" * 20, more=")" * 21, less=")" * 19, all="?" * 40, e="", one="?")
        self.answers(
            desk, ("behind new half half", "ok"), ("show new", "(" * 40), ("behind new half less", "ok"),
            ("show new", "(" * 20 + ")" * 19), ("behind new all e", "ok"), ("show new", "?" * 40),
            ("behind new e all", "ok"))
        for row in (
            "behind new half more", "behind new more half", "behind new all one", "behind other one all",
            "behind all all all", "behind one all one", "behind other more more",
        ):
            self.refuse(NoLine, desk, row)

    def test_drop(self):
        desk = laid(1, a="()", b="")
        self.answers(desk, ("drop a", "ok"), ("names", "b probe"), ("drop b", "ok"), ("drop probe", "ok"))
        self.answers(desk, ("names", "none"), ("row a (", "ok"), ("show a", "("), ("names", "a"))
        self.refuse(NoName, desk, "drop b")
        self.answers(desk, ("drop a", "ok"), ("names", "none"))
        self.refuse(NoName, desk, "drop a")

    def test_right_and_may(self):
        for row, right, may in (
            ("", "yes", "yes"), ("()", "yes", "yes"), ("(", "no", "yes"), (")", "no", "no"), ("??", "no", "yes"),
            ("[()]()", "yes", "yes"), ("([)]", "no", "no"), ("?)", "no", "yes"), ("?))", "no", "no"),
        ):
            self.answers(laid(2, a=row), ("right a", right), ("may a", may), ("show a", row or "none"))

    def test_many_nth_and_number(self):
        desk = laid(2, a="(??)", e="", none=")(", odd="?")
        self.answers(
            desk, ("many a", "3"), ("nth a 0", "(())"), ("nth a 1", "()()"), ("nth a 2", "([])"),
            ("number a (())", "0"), ("number a ()()", "1"), ("number a ([])", "2"), ("many e", "1"),
            ("nth e 0", "none"), ("number e ", "0"), ("many none", "0"), ("many odd", "0"))
        for row in ("nth a 3", "nth e 1", "nth none 0", "nth odd 0", "nth a 999999999"):
            self.refuse(NoNumber, desk, row)
        for row in (
            "number a ()[]", "number a ", "number a (??)", "number a ()", "number e ()", "number e ?",
            "number none )(", "number none ()", "number odd ?", "number a ?",
        ):
            self.refuse(NotRight, desk, row)

    def test_sure(self):
        for row, answer in (
            ("", "none"), ("()", "()"), ("??", "??"), ("(?", "()"), ("(??]", "()[]"), ("((??", "(())"),
            ("(??)", "(??)"), ("(????]", "(????]"), ("?[]?", "?[]?"), ("?][?", "[][]"), ("[??](?", "[??]()"),
        ):
            self.answers(laid(2, a=row), ("sure a", answer), ("show a", row or "none"))
        for row in ("?", ")(", "(", "(]", "??)", "?("):
            self.refuse(NoFilling, laid(2, a=row), "sure a")

    def test_fewest_and_more(self):
        for row, fewest, more in (
            ("", "0 none", "0"), ("()", "0 ()", "0"), (")(", "2 ()", "none"), ("(", "none", "1"), ("?", "none", "1"),
            (")", "none", "none"), ("((", "1 ()", "2"), ("??", "0 ()", "0"), ("[[[[", "2 [[]]", "4"),
            ("(]", "1 ()", "none"), ("[?", "0 []", "0"), ("?" * 39, "none", "1"),
            ("(" * 40, "20 " + "(" * 20 + ")" * 20, "40"),
        ):
            self.answers(laid(2, a=row), ("fewest a", fewest), ("more a", more), ("show a", row or "none"))

    def test_names(self):
        desk = Desk()
        for name in ("b", "ab", "a", "aa", "z", "abcdefgh", "abcdefg", "c"):
            self.answers(desk, (f"row {name} ()", "ok"))
        self.answers(desk, ("names", "a aa ab abcdefg abcdefgh b c z"))
        self.assertEqual(desk.names(), ["a", "aa", "ab", "abcdefg", "abcdefgh", "b", "c", "z"])
        self.answers(desk, ("drop b", "ok"), ("row a ((", "ok"), ("names", "a aa ab abcdefg abcdefgh c z"))

    def test_forty_names(self):
        desk = Desk()
        names = [first + second for first in "qwert" for second in "zyxwvuts"]
        for name in names:
            self.answers(desk, (f"row {name} ", "ok"))
        self.answers(desk, ("names", " ".join(sorted(names))))
        self.assertEqual(desk.names(), sorted(names))

    def test_names_that_are_words_of_the_desks_own(self):
        desk = Desk()
        words = WORDS + ("none", "ok", "yes", "no")
        for at, name in enumerate(words):
            self.answers(desk, (f"row {name} " + "?" * at, "ok"))
        for at, name in enumerate(words):
            self.answers(desk, (f"show {name}", "?" * at or "none"))
        self.answers(
            desk, ("turn row row", "ok"), ("behind names names row", "ok"), ("show names", "?" * 15),
            ("may may", "yes"),
            ("right right", "no"), ("drop drop", "ok"), ("fewest fewest", "0 " + "(" * 6 + ")" * 6), ("more more", "1"),
            ("many many", str(how_many(4, "?" * 8))),
            ("number number " + "()" * 5, str(number_of(4, "?" * 10, "()" * 5))),
            ("show none", "?" * 15), ("show ok", "?" * 16))
        self.assertEqual(desk.names(), sorted(set(words) - {"drop"}))


class AsTheStages(DeskCase):
    def check_row(self, k, desk, row):
        found = fewest_changes(k, row)
        more = fewest_more(k, row)
        many = how_many(k, row)
        self.answers(
            desk, ("row a " + row, "ok"), ("show a", row or "none"), ("turn b a", "ok"),
            ("show b", turned(k, row) or "none"), ("right a", "yes" if is_right(k, row) else "no"),
            ("may a", "yes" if may_go_on(k, row) else "no"), ("many a", str(many)),
            ("fewest a", "none" if found is None else f"{found[0]} {found[1] or 'none'}"),
            ("more a", "none" if more is None else str(more)))
        if not many:
            self.refuse(NoFilling, desk, "sure a")
            self.refuse(NoNumber, desk, "nth a 0")
            self.refuse(NotRight, desk, "number a " + row)
            return
        sure = list(row)
        for place, bracket in sure_places(k, row):
            sure[place] = bracket
        self.answers(desk, ("sure a", "".join(sure) or "none"))
        for i in sorted({0, min(many - 1, 999999999), min(many, 10 ** 9) * 3 // 5}):
            filling = nth_filling(k, row, i)
            self.answers(desk, (f"nth a {i}", filling or "none"), ("number a " + filling, str(i)))

    def test_all_short_rows(self):
        for k, longest in ((1, 5), (2, 3), (3, 3), (4, 2)):
            desk = laid(k)
            for row in all_rows(k, longest):
                self.check_row(k, desk, row)

    def test_rows_of_forty_signs(self):
        for k in ALL_K:
            desk = laid(k)
            for row in forty_with_fillings(k) + forty_without_fillings(k):
                self.check_row(k, desk, row)

    def test_forty_unknown_ones_of_four_kinds(self):
        desk = Desk()
        self.answers(
            desk, ("row a " + "?" * 40, "ok"), ("many a", "7217326727911880785920"),
            ("nth a 0", "(" * 20 + ")" * 20), ("number a " + "<>" * 20, "7217326727911880785919"),
            ("sure a", "?" * 40), ("fewest a", "0 " + "(" * 20 + ")" * 20), ("more a", "0"))

    def test_sure_brackets_one_by_one(self):
        for k, longest in ((1, 6), (2, 4), (4, 3)):
            desk = laid(k)
            for row in all_rows(k, longest):
                fillings = right_fillings(k, row)
                if fillings:
                    told = "".join(
                        one[0] if len(set(one)) == 1 else "?" for one in zip(*fillings))
                    self.answers(desk, ("row a " + row, "ok"), ("sure a", told or "none"))


class NoSuchRows(DeskCase):
    def setUp(self):
        self.desk = laid(2, a="(?", b="()", c="")

    def test_anything(self):
        for thing in of_other_kinds() + lists() + numbers() + [
            b"names", b"row a ()", ["names"], ("names",), ["row", "a", "()"], {"names": "names"}, [["names"]],
        ]:
            self.refuse(NoRow, self.desk, thing)

    def test_texts_that_are_no_words_of_the_desk(self):
        for text in (
            "", " ", "  ", "\n", "\t", "x", "()", "?", "ok", "none", "yes", "a", "name", "rows", "kind 3", "show",
            "Names", "NAMES", "help", "quit", "turned a b", "none a", "ok a", "xrow a ()", "rowx a ()", "names\n",
            "names\t", "a" * 1000, " " * 1000, "names " * 160, "0", "1", "k", "how_many a", "is_right a", "/",
            "'names'", "\\", "new",
        ):
            self.refuse(NoRow, self.desk, text)

    def test_well_formed_ones_are_answered(self):
        for row in WELL_FORMED:
            laid(2, a="(?", b="??", c="").say(row)

    def test_blanks_ahead_and_other_first_words(self):
        for row in WELL_FORMED:
            for text in (
                " " + row, "  " + row, "\t" + row, "\n" + row, row.upper(), row.capitalize(), "x" + row, "ok " + row,
            ):
                self.refuse(NoRow, self.desk, text)

    def test_blanks_behind(self):
        for row in WELL_FORMED:
            if row.split(" ")[0] not in ("row", "number"):
                for behind in (" ", "  ", "\n", "\t", " x", " a", " 0", " ()", "\r"):
                    self.refuse(NoRow, self.desk, row + behind)

    def test_blanks_doubled_and_other_ones(self):
        for row in WELL_FORMED:
            words = row.split(" ")
            last = len(words) - 1 - (words[0] in ("row", "number"))
            for at in range(1, last + 1):
                for between in ("  ", "   ", "\t", "\n", " \t", ""):
                    self.refuse(NoRow, self.desk, " ".join(words[:at]) + between + " ".join(words[at:]))

    def test_words_that_are_missing(self):
        for row in WELL_FORMED:
            words = row.split(" ")
            for many in range(1, len(words)):
                self.refuse(NoRow, self.desk, " ".join(words[:many]))
                if not (words[0] in ("row", "number") and many == len(words) - 1):
                    self.refuse(NoRow, self.desk, " ".join(words[:many]) + " ")

    def test_names_that_are_none(self):
        for name in NO_NAMES:
            for row in (
                "row {} ()", "row {} ", "row {} x", "turn {} a", "turn a {}", "behind {} a a", "behind a {} a",
                "behind a a {}", "drop {}", "show {}", "right {}", "may {}", "many {}", "nth {} 0", "number {} ()",
                "number {} ", "sure {}", "fewest {}", "more {}",
            ):
                self.refuse(NoRow, self.desk, row.format(name))

    def test_names_of_one_to_eight_letters(self):
        for name in ("a", "z", "q", "az", "abcdefgh", "zzzzzzzz", "m" * 7):
            self.answers(
                self.desk, (f"row {name} ()", "ok"), (f"show {name}", "()"), (f"turn {name} {name}", "ok"),
                (f"behind {name} {name} {name}", "ok"), (f"number {name} ()()", "0"), (f"nth {name} 0", "()()"))
            self.assertIn(name, self.desk.names())

    def test_figures_that_are_none(self):
        for figures in NO_FIGURES:
            self.refuse(NoRow, self.desk, f"kinds {figures}")
            self.refuse(NoRow, self.desk, f"nth a {figures}")

    def test_figures_of_one_to_nine(self):
        for many in range(1, 10):
            for figures in ("5" * many, "9" * many, "1" + "0" * (many - 1)):
                if int(figures) > 4:
                    self.refuse(NoKinds, self.desk, f"kinds {figures}")
                self.refuse(NoNumber, laid(1, a=")"), f"nth a {figures}")
        desk = laid(4, a="?" * 40)
        for figures in ("0", "7", "10", "123456789", "999999999", "100000000", "20202"):
            self.answers(desk, (f"nth a {figures}", nth_filling(4, "?" * 40, int(figures))))

    def test_a_row_with_nothing_behind_its_blank_and_without_the_blank(self):
        for text in ("row", "row ", "row a", "number", "number ", "number c", "row new", "row  ", "number  "):
            self.refuse(NoRow, self.desk, text)
        self.answers(
            self.desk, ("number c ", "0"), ("row a ", "ok"), ("show a", "none"), ("row new ", "ok"),
            ("show new", "none"))

    def test_all_that_is_left_is_the_row(self):
        for row in (
            " ", "  ", " ()", "() ", "( )", "() ()", "()\n", "\t", "\n", "a", "a ()", "() x", "?? ?", "(" * 41, "<>",
            "{",
        ):
            self.refuse(NoLine, self.desk, "row a " + row)
            self.refuse(NoLine, self.desk, "row new " + row)
            self.refuse(NoLine, self.desk, "number b " + row)


class Order(DeskCase):
    def setUp(self):
        self.desk = laid(2, a="(?", b="()", c="", bad=")(", long="?" * 40)

    def test_no_name(self):
        for row in (
            "turn a x", "turn x x", "turn x y", "behind a x b", "behind a b x", "behind x x a", "behind x y z",
            "drop x", "show x", "right x", "may x", "many x", "nth x 0", "number x ()", "number x ", "sure x",
            "fewest x", "more x", "show names", "show abcdefgh", "drop row",
        ):
            self.refuse(NoName, self.desk, row)

    def test_no_row_ahead_of_no_name(self):
        for row in (
            "show x ", "show  x", "nth x 00", "nth x", "nth x -1", "number x", "turn X x", "turn x X", "behind x x X",
            "behind X a x", "behind x y", "drop x y", "number X ()", "many x\n", "nth x 1234567890",
        ):
            self.refuse(NoRow, self.desk, row)

    def test_no_name_ahead_of_the_stages(self):
        for row in (
            "number x )", "number x ( )", "number x <>", "number x  ", "number x a", "nth x 999999999",
            "behind a long x", "behind a x long", "behind x long x", "number x " + "(" * 41,
        ):
            self.refuse(NoName, self.desk, row)

    def test_no_line_ahead_of_not_right(self):
        for row in (
            "number a <>", "number bad {}", "number a " + "()" * 21, "number c  ", "number b () ", "number b x",
        ):
            self.refuse(NoLine, self.desk, row)
        for row in ("number a ((", "number bad ()", "number bad )(", "number c ()", "number b ??", "number long ()"):
            self.refuse(NotRight, self.desk, row)

    def test_what_no_line_is(self):
        for k in ALL_K:
            desk = laid(k, a="??")
            for thing in no_lines(k):
                if isinstance(thing, str):
                    self.refuse(NoLine, desk, "row a " + thing)
                    self.refuse(NoLine, desk, "row new " + thing)
                    self.refuse(NoLine, desk, "number a " + thing)

    def test_no_row_ahead_of_no_line(self):
        for row in ("row A x", "row  x", "row abcdefghi <>", "number B x", "row a1 x", "row a", "number a"):
            self.refuse(NoRow, self.desk, row)

    def test_no_kinds_forgets_no_name(self):
        for figures in ("0", "5", "6", "10", "44", "999999999"):
            self.refuse(NoKinds, self.desk, "kinds " + figures)
        self.answers(self.desk, ("many probe", "2"), ("show b", "()"), ("names", "a b bad c long probe"))

    def test_behind_of_more_than_forty(self):
        for row in ("behind x long b", "behind long long b", "behind b long b", "behind a b long"):
            self.refuse(NoLine, self.desk, row)
        self.assertNotIn("x", self.desk.names())

    def test_the_stages_refuse(self):
        for refused, row in (
            (NoFilling, "sure bad"), (NoNumber, "nth bad 0"), (NoNumber, "nth b 1"), (NotRight, "number b (("),
            (NoLine, "row b <>"), (NoKinds, "kinds 0"),
        ):
            self.refuse(refused, self.desk, row)

    def test_it_goes_on_behind_a_refusal(self):
        for row in ("kinds 9", "row b <>", "turn b x", "behind b long a", "drop x", "nope", None, ["row"], "sure bad"):
            with self.assertRaises(ValueError):
                self.desk.say(row)
            self.answers(self.desk, ("show b", "()"), ("row d ??", "ok"), ("many d", "2"), ("drop d", "ok"))

    def test_what_is_handed_in_stays(self):
        thing = ["row", ["a"], {"b": [1]}]
        self.refuse(NoRow, self.desk, thing)
        self.assertEqual(thing, ["row", ["a"], {"b": [1]}])


class TwoDesks(DeskCase):
    def test_side_by_side(self):
        one, other = Desk(), Desk()
        self.answers(one, ("row a <>", "ok"), ("row b ??", "ok"))
        self.answers(other, ("names", "none"), ("kinds 1", "ok"), ("row a ??", "ok"), ("many a", "1"))
        self.answers(one, ("names", "a b"), ("show a", "<>"), ("many b", "4"))
        self.refuse(NoName, other, "show b")
        self.refuse(NoLine, other, "row c <>")
        self.answers(one, ("row c <>", "ok"), ("drop a", "ok"), ("names", "b c"))
        self.answers(other, ("names", "a"), ("show a", "??"), ("kinds 2", "ok"))
        self.answers(one, ("names", "b c"), ("many b", "4"))
        self.answers(Desk(), ("names", "none"), ("row a >", "ok"))


class Names(DeskCase):
    def test_a_list_of_the_askers_own(self):
        desk = laid(2, b="()", a="(")
        first, second = desk.names(), desk.names()
        self.assertIs(type(first), list)
        self.assertEqual(first, ["a", "b", "probe"])
        self.assertIsNot(first, second)
        first.append("zz")
        first[0] = None
        self.assertEqual(second, ["a", "b", "probe"])
        self.assertEqual(desk.names(), ["a", "b", "probe"])
        self.answers(desk, ("names", "a b probe"), ("show a", "("))
        self.refuse(NoName, desk, "show zz")
        second.clear()
        self.assertEqual(desk.names(), ["a", "b", "probe"])

    def test_a_told_list_does_not_follow_the_desk(self):
        desk = laid(2)
        before = desk.names()
        self.answers(desk, ("row x ()", "ok"))
        self.assertEqual(before, ["probe"])
        self.answers(desk, ("kinds 2", "ok"))
        self.assertEqual(before, ["probe"])
        self.assertEqual(desk.names(), [])

    def test_the_empty_lists_are_two(self):
        desk = Desk()
        desk.names().append("a")
        self.assertEqual(desk.names(), [])
        self.answers(desk, ("names", "none"))


if __name__ == "__main__":
    unittest.main()
