"""What is sure in all right fillings of a row: brackets at places, and pairs."""

from bracketrows.lines import BRACKETS, UNKNOWN, check_line, check_place
from bracketrows.spans import (
    bracket_sums, check_filling, counted_places, pair_sum, pairs_with_rest, span_sums, whole_sum,
)


def filled(k, row):
    """The places of a row that has a right filling, and the sums of its spans."""
    places = counted_places(k, row)
    sums = span_sums(places)
    check_filling(sums)
    return (places, sums)


def brackets_at(k, row, i):
    """Each bracket that some right filling has at a place, with how many have it there."""
    check_line(k, row)
    check_place(row, i)
    places, sums = filled(k, row)
    return {bracket: many for bracket, many in zip(BRACKETS, bracket_sums(places, sums)[i]) if many > 0}


def sure_places(k, row):
    """Tuples (place, bracket) of those places of a ? where all right fillings have the same bracket."""
    check_line(k, row)
    places, sums = filled(k, row)
    in_all = whole_sum(sums)
    return [
        (at, BRACKETS[manies.index(in_all)])
        for at, manies in enumerate(bracket_sums(places, sums))
        if row[at] == UNKNOWN and in_all in manies
    ]


def sure_pairs(k, row):
    """Tuples (i, j) of places such that in each right filling the bracket at i is closed by the one at j."""
    check_line(k, row)
    places, sums = filled(k, row)
    in_all = whole_sum(sums)
    return [
        (start, end)
        for start, end, rest in pairs_with_rest(places, sums)
        if pair_sum(places[start], places[end]) * rest == in_all
    ]
