"""Right fillings by weights: their sum, the likeliest one, and the chance of a bracket."""

from bracketrows.errors import NoPlace, NoWeights
from bracketrows.lines import BRACKETS, check_line, check_place, is_whole
from bracketrows.spans import bracket_sums, check_filling, span_sums, weighed_places, whole_sum


def check_weights(k, weights):
    """Refuse what is no list of weights by k."""
    if not isinstance(weights, list) or len(weights) != 2 * k:
        raise NoWeights("weights are a list of one for each bracket of the kinds there are")
    if not all([is_whole(weight) and weight >= 0 for weight in weights]):
        raise NoWeights("a weight is a whole number from 0 on")


def checked_places(k, row, weights):
    """The places of a row by weights, where none of the three is refused."""
    check_line(k, row)
    check_weights(k, weights)
    return weighed_places(row, weights)


def weight_sum(k, row, weights):
    """The sum of the weights of all right fillings of a row."""
    return whole_sum(span_sums(checked_places(k, row, weights)))


def likelier(one, other):
    """The one of two tuples (weight, brackets) that weighs more, or as much and is the first; never None for one."""
    if one is None or other is None:
        return one if other is None else other
    if one[0] == other[0]:
        return one if one[1] < other[1] else other
    return one if one[0] > other[0] else other


def likeliest_pair(first, last):
    """The tuple (weight, brackets) of the likeliest pair of two places, or None."""
    best = None
    for opening in range(0, len(first), 2):
        weight = first[opening] * last[opening + 1]
        if weight > 0:
            best = likelier(best, (weight, [opening, opening + 1]))
    return best


def round_about(pair, within):
    """The tuple of a pair with something within it, or None where one of them is."""
    if pair is None or within is None:
        return None
    opening, closing = pair[1]
    return (pair[0] * within[0], [opening] + within[1] + [closing])


def one_behind_the_other(first, second):
    """The tuple of two that stand side by side, or None where one of them is."""
    if first is None or second is None:
        return None
    return (first[0] * second[0], first[1] + second[1])


def likeliest_spans(places):
    """At [start][stop] the tuple of the likeliest filling of what stands from start up to stop, or None."""
    many = len(places)
    best = [[None] * (many + 1) for start in range(many + 1)]
    for start in range(many, -1, -1):
        best[start][start] = (1, [])
        for end in range(start + 1, many, 2):
            # A part that weighs 0 is None, so what is likeliest in each part is so in the whole too.
            part = round_about(likeliest_pair(places[start], places[end]), best[start + 1][end])
            for stop in range(end + 1, many + 1, 2):
                found = one_behind_the_other(part, best[end + 1][stop])
                best[start][stop] = likelier(best[start][stop], found)
    return best


def first_likeliest(places):
    """As likeliest, of a row that is handed in as its places."""
    best = likeliest_spans(places)[0][-1]
    if best is None:
        return None
    return (best[0], "".join([BRACKETS[bracket] for bracket in best[1]]))


def likeliest(k, row, weights):
    """The greatest weight of a right filling with the first filling that has it, or None where none counts."""
    return first_likeliest(checked_places(k, row, weights))


def check_bracket(k, thing):
    """Refuse what is no bracket of the kinds of k."""
    if not isinstance(thing, str) or len(thing) != 1 or thing not in BRACKETS[:2 * k]:
        raise NoPlace("at a place stands one bracket of the kinds there are")


def reduced(top, bottom):
    """The tuple of two numbers, the second above 0, with what divides both taken out of them."""
    divisor = bottom
    left = top
    while left:
        divisor, left = left, divisor % left
    return (top // divisor, bottom // divisor)


def chance(k, row, weights, i, bracket):
    """The chance of a bracket at a place, as a tuple (top, bottom)."""
    places = checked_places(k, row, weights)
    check_place(row, i)
    check_bracket(k, bracket)
    sums = span_sums(places)
    check_filling(sums)
    return reduced(bracket_sums(places, sums)[i][BRACKETS.index(bracket)], whole_sum(sums))
