"""Sums over all right fillings, reckoned span by span, so that no filling is gone through by itself.

Brackets go by their numbers in the order ( ) [ ] { } < >: an even one opens, the one behind it closes it.
A row is handed in as its places: at each a list of what each bracket of the kinds weighs there.
"""

from bracketrows.errors import NoFilling
from bracketrows.lines import BRACKETS, UNKNOWN


def weighed_places(row, weights):
    """The places of a row, where the brackets for ? have weights and those of the row weigh 1."""
    return [
        list(weights) if sign == UNKNOWN else [int(sign == bracket) for bracket in BRACKETS[:len(weights)]]
        for sign in row
    ]


def counted_places(k, row):
    """The places of a row where each filling weighs 1, so that sums are numbers of fillings."""
    return weighed_places(row, [1] * (2 * k))


def pair_sum(first, last):
    """The sum of the weights of all pairs that open at one place and are closed at another."""
    return sum([first[opening] * last[opening + 1] for opening in range(0, len(first), 2)])


def no_sums(many):
    """A 0 for each start and stop of the spans of so many places."""
    return [[0] * (many + 1) for start in range(many + 1)]


def span_sums(places):
    """At [start][stop] the sum of the weights of the right fillings of what stands from start up to stop."""
    many = len(places)
    sums = no_sums(many)
    # From the end on, for a span is made of spans that start behind it.
    for start in range(many, -1, -1):
        sums[start][start] = 1
        for end in range(start + 1, many, 2):
            first_part = pair_sum(places[start], places[end]) * sums[start + 1][end]
            for stop in range(end + 1, many + 1, 2):
                sums[start][stop] += first_part * sums[end + 1][stop]
    return sums


def whole_sum(sums):
    """The sum of the weights of all right fillings of the whole row."""
    return sums[0][-1]


def check_filling(sums):
    """Refuse a row of which no right filling weighs more than 0."""
    if whole_sum(sums) == 0:
        raise NoFilling("the row has no right filling, or none that weighs more than 0")


def pairs_with_rest(places, sums):
    """Tuples (start, end, rest), rising: rest is the sum of the weights of all that a pair leaves to be filled."""
    many = len(places)
    # At [start][stop] the sum for what stands round a right row that goes on from start up to the very
    # bracket at stop that closes what it stands in, or up to the end of the whole row.
    outer = no_sums(many)
    outer[0][many] = 1
    found = []
    for start in range(many):
        for end in range(start + 1, many, 2):
            pair = pair_sum(places[start], places[end])
            within = sums[start + 1][end]
            outside = 0
            for stop in range(end + 1, many + 1, 2):
                outer[end + 1][stop] += outer[start][stop] * pair * within
                outside += outer[start][stop] * sums[end + 1][stop]
            outer[start + 1][end] += pair * outside
            found.append((start, end, within * outside))
    return found


def bracket_sums(places, sums):
    """At each place, for each bracket, the sum of the weights of the right fillings that have it there."""
    found = [[0] * len(place) for place in places]
    for start, end, rest in pairs_with_rest(places, sums):
        for opening in range(0, len(places[start]), 2):
            weight = places[start][opening] * places[end][opening + 1] * rest
            found[start][opening] += weight
            found[end][opening + 1] += weight
    return found
