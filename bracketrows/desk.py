"""A desk that keeps rows by names and answers rows of words."""

from bracketrows.begun import fewest_more, may_go_on
from bracketrows.bynumber import nth_filling, number_of
from bracketrows.changed import fewest_changes
from bracketrows.errors import NoName, NoRow
from bracketrows.fillings import how_many
from bracketrows.lines import check_kinds, check_line, is_right
from bracketrows.shapes import turned
from bracketrows.sure import sure_places

DONE = "ok"
NOTHING = "none"
FIRST_KINDS = 4
LETTERS = "abcdefghijklmnopqrstuvwxyz"
MOST_LETTERS = 8
FIGURES = "0123456789"
MOST_FIGURES = 9

# What follows each word: a new name need not stand yet, a name must, and a line is all that is left.
FORMS = {
    "kinds": ("number",),
    "row": ("new", "line"),
    "turn": ("new", "name"),
    "behind": ("new", "name", "name"),
    "drop": ("name",),
    "show": ("name",),
    "right": ("name",),
    "may": ("name",),
    "many": ("name",),
    "nth": ("name", "number"),
    "number": ("name", "line"),
    "sure": ("name",),
    "fewest": ("name",),
    "more": ("name",),
    "names": (),
}


def is_name(word):
    """Whether a word is one to eight small letters."""
    return 1 <= len(word) <= MOST_LETTERS and all([sign in LETTERS for sign in word])


def is_number(word):
    """Whether a word is one to nine figures, the first no 0 of several."""
    if not 1 <= len(word) <= MOST_FIGURES or not all([sign in FIGURES for sign in word]):
        return False
    return len(word) == 1 or word[0] != "0"


def has_form(word, part):
    """Whether a word is what a part of a form asks for; whether a line is a row is judged later."""
    if part == "line":
        return True
    return is_number(word) if part == "number" else is_name(word)


def parted(text, form):
    """The words of a text, with blanks left alone where they are within a line."""
    return text.split(" ", len(form)) if "line" in form else text.split(" ")


def known_words(thing):
    """The words of a thing, or None where it is no row of words that a desk knows."""
    if not isinstance(thing, str):
        return None
    first = thing.partition(" ")[0]
    if first not in FORMS:
        return None
    form = FORMS[first]
    words = parted(thing, form)
    if len(words) != len(form) + 1:
        return None
    return words if all([has_form(word, part) for word, part in zip(words[1:], form)]) else None


def yes_or_no(truth):
    """A truth as it is answered."""
    return "yes" if truth else "no"


def shown(row):
    """A row as it is answered."""
    return row if row else NOTHING


# Each def from here on answers the rows of words that begin with the word in its name. It is handed what follows
# that word, when its form is sure and so is each name that must stand; so it refuses what the stages refuse alone.


def say_kinds(desk, words):
    k = int(words[0])
    check_kinds(k)
    desk.k = k
    desk.rows = {}
    return DONE


def say_row(desk, words):
    check_line(desk.k, words[1])
    desk.rows[words[0]] = words[1]
    return DONE


def say_turn(desk, words):
    desk.rows[words[0]] = turned(desk.k, desk.rows[words[1]])
    return DONE


def say_behind(desk, words):
    both = desk.rows[words[1]] + desk.rows[words[2]]
    check_line(desk.k, both)
    desk.rows[words[0]] = both
    return DONE


def say_drop(desk, words):
    desk.rows.pop(words[0])
    return DONE


def say_show(desk, words):
    return shown(desk.rows[words[0]])


def say_right(desk, words):
    return yes_or_no(is_right(desk.k, desk.rows[words[0]]))


def say_may(desk, words):
    return yes_or_no(may_go_on(desk.k, desk.rows[words[0]]))


def say_many(desk, words):
    return str(how_many(desk.k, desk.rows[words[0]]))


def say_nth(desk, words):
    return shown(nth_filling(desk.k, desk.rows[words[0]], int(words[1])))


def say_number(desk, words):
    # A filling may be anything to the stages, so what is no row must be refused ahead of them.
    check_line(desk.k, words[1])
    return str(number_of(desk.k, desk.rows[words[0]], words[1]))


def say_sure(desk, words):
    row = desk.rows[words[0]]
    signs = list(row)
    for at, bracket in sure_places(desk.k, row):
        signs[at] = bracket
    return shown("".join(signs))


def say_fewest(desk, words):
    found = fewest_changes(desk.k, desk.rows[words[0]])
    return NOTHING if found is None else f"{found[0]} {shown(found[1])}"


def say_more(desk, words):
    found = fewest_more(desk.k, desk.rows[words[0]])
    return NOTHING if found is None else str(found)


def say_names(desk, words):
    return " ".join(sorted(desk.rows)) if desk.rows else NOTHING


DEEDS = {
    "kinds": say_kinds,
    "row": say_row,
    "turn": say_turn,
    "behind": say_behind,
    "drop": say_drop,
    "show": say_show,
    "right": say_right,
    "may": say_may,
    "many": say_many,
    "nth": say_nth,
    "number": say_number,
    "sure": say_sure,
    "fewest": say_fewest,
    "more": say_more,
    "names": say_names,
}


class Desk:
    """Rows by names, and how many kinds there are."""

    def __init__(self):
        self.k = FIRST_KINDS
        self.rows = {}

    def say(self, row):
        """The answer to a row of words."""
        words = known_words(row)
        if words is None:
            raise NoRow("this is no row of words that a desk knows")
        for word, part in zip(words[1:], FORMS[words[0]]):
            if part == "name" and word not in self.rows:
                raise NoName("no row stands by this name")
        deed = DEEDS[words[0]]
        return deed(self, words[1:])

    def names(self):
        """The names by which rows stand, in the order of letters."""
        return sorted(self.rows)
