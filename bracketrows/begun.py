"""Rows that have begun: whether they may go on, how deep they stand, and what must still come."""

from bracketrows.errors import NoNumber
from bracketrows.fillings import how_many
from bracketrows.lines import MOST_SIGNS, UNKNOWN, check_line, is_whole
from bracketrows.spans import counted_places, span_sums


def may_open(place):
    """Whether an opening bracket may stand at a place."""
    return any(place[::2])


def depths_before(places, sums, shorter, stop):
    """The depths of the row up to, not at, stop, by the depths of each shorter one."""
    # What stands behind the last bracket that is not closed, or the whole where there is none, is a right row.
    found = [
        depth + 1
        for start in range(stop)
        if may_open(places[start]) and sums[start + 1][stop] > 0
        for depth in shorter[start]
    ]
    if sums[0][stop] > 0:
        found.append(0)
    return sorted(set(found))


def depths_by_stop(k, row):
    """For each beginning of a row, from the empty one to the whole, its depths."""
    places = counted_places(k, row)
    sums = span_sums(places)
    found = []
    for stop in range(len(row) + 1):
        found.append(depths_before(places, sums, found, stop))
    return found


def depths(k, row):
    """The numbers of brackets, rising, that wait at the end of those fillings that begin a right row."""
    check_line(k, row)
    return depths_by_stop(k, row)[-1]


def may_go_on(k, row):
    """Whether some filling of a row is the beginning of a right row."""
    return len(depths(k, row)) > 0


def first_failing(k, row):
    """The first place such that the row up to it, it among them, may not go on, or None."""
    check_line(k, row)
    for stop, found in enumerate(depths_by_stop(k, row)):
        if not found:
            return stop - 1
    return None


def fewest_more(k, row):
    """The fewest brackets that must come behind a row to make some filling right, or None where it may not go on."""
    found = depths(k, row)
    return found[0] if found else None


def how_many_with(k, row, m):
    """In how many ways a filling of a row and m brackets behind it make a right row together."""
    check_line(k, row)
    if not is_whole(m) or not 0 <= m <= MOST_SIGNS - len(row):
        raise NoNumber("a row and what comes behind it have at most forty brackets together")
    return how_many(k, row + UNKNOWN * m)
