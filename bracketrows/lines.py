"""Rows by a number of kinds, which of them are right, and who closes whom."""

from bracketrows.errors import NoKinds, NoLine, NoPlace, NotRight

OPENING = "([{<"
CLOSING = ")]}>"
KINDS = ("()", "[]", "{}", "<>")
BRACKETS = "()[]{}<>"
UNKNOWN = "?"
MOST_SIGNS = 40


def is_whole(thing):
    """Whether a thing is a whole number; True and False are none."""
    return isinstance(thing, int) and not isinstance(thing, bool)


def check_kinds(k):
    """Refuse what is no number of kinds."""
    if not is_whole(k) or not 1 <= k <= len(KINDS):
        raise NoKinds("the number of kinds is a whole number from 1 to 4")


def is_line(k, thing):
    """Whether a thing is a row by k."""
    check_kinds(k)
    if not isinstance(thing, str) or len(thing) > MOST_SIGNS:
        return False
    signs = OPENING[:k] + CLOSING[:k] + UNKNOWN
    return all([sign in signs for sign in thing])


def check_line(k, row):
    """Refuse a k that is none, then what is no row by it."""
    if not is_line(k, row):
        raise NoLine("a row is a text of at most forty brackets of the kinds there are, and ?")


def check_place(row, i):
    """Refuse what is no place of a row."""
    if not is_whole(i) or not 0 <= i < len(row):
        raise NoPlace("a place is a whole number from 0 on, below the length of the row")


def matched(row):
    """The partners of a row, or None where it is not right."""
    found = [0] * len(row)
    waiting = []
    for at, sign in enumerate(row):
        if sign in OPENING:
            waiting.append(at)
            continue
        # A ? makes no pair with anything, so this sees to it too.
        if not waiting or row[waiting[-1]] + sign not in KINDS:
            return None
        start = waiting.pop()
        found[start] = at
        found[at] = start
    return None if waiting else found


def is_right(k, row):
    """Whether a row is right."""
    check_line(k, row)
    return matched(row) is not None


def partners(k, row):
    """At each place of a right row the place of the bracket that closes or opens it."""
    check_line(k, row)
    found = matched(row)
    if found is None:
        raise NotRight("the row is not right")
    return found
