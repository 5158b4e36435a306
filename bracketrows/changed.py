"""The right row that a row becomes by the fewest changes."""

from bracketrows.likely import first_likeliest
from bracketrows.lines import BRACKETS, UNKNOWN, check_line

KEPT = 2
CHANGED = 1


def needs_change(sign, bracket):
    """Whether a sign of a row must be changed for a bracket to stand in its place."""
    return sign not in (UNKNOWN, bracket)


def places_to_change(k, row):
    """The places of a row where each bracket may stand, so weighed that the fewest changes weigh the most."""
    return [
        [CHANGED if needs_change(sign, bracket) else KEPT for bracket in BRACKETS[:2 * k]]
        for sign in row
    ]


def fewest_changes(k, row):
    """The fewest changes to a right filling with the first right row that comes of them, or None of an odd length."""
    check_line(k, row)
    best = first_likeliest(places_to_change(k, row))
    if best is None:
        return None
    right = best[1]
    return (sum([int(needs_change(sign, bracket)) for sign, bracket in zip(row, right)]), right)
