"""How many right fillings a row has, and how many right rows there are."""

from bracketrows.errors import NoNumber
from bracketrows.lines import MOST_SIGNS, UNKNOWN, check_kinds, check_line, is_whole
from bracketrows.spans import counted_places, span_sums, whole_sum


def how_many(k, row):
    """How many right fillings a row has."""
    check_line(k, row)
    return whole_sum(span_sums(counted_places(k, row)))


def can_be_right(k, row):
    """Whether a row has a right filling."""
    return how_many(k, row) > 0


def how_many_right(k, n):
    """How many right rows of n brackets there are."""
    check_kinds(k)
    if not is_whole(n) or not 0 <= n <= MOST_SIGNS:
        raise NoNumber("a row has from 0 to forty brackets")
    return how_many(k, UNKNOWN * n)
