"""Right fillings by their numbers, in the order of the first brackets that are unlike."""

from bracketrows.errors import NoNumber, NotRight
from bracketrows.lines import BRACKETS, UNKNOWN, check_line, is_line, is_right, is_whole
from bracketrows.spans import counted_places, span_sums, whole_sum


def opens(bracket):
    """Whether a bracket, by its number, is an opening one."""
    return bracket % 2 == 0


class Course:
    """The right fillings of a row that begin with the brackets that were taken, each by its number."""

    def __init__(self, k, row):
        self.places = counted_places(k, row)
        self.sums = span_sums(self.places)
        self.at = 0
        # The brackets that must close what was taken, the next one last.
        self.closings = []
        # At each place how many ways there are from it to the end: first where nothing waits to be closed,
        # then where one does, and so on.
        self.rests = [[row_sums[-1] for row_sums in self.sums]]

    def many_in_all(self):
        """How many right fillings the row has."""
        return whole_sum(self.sums)

    def many_closing(self, start, closing):
        """How many ways there are from a place to the end where one more waits to be closed than now."""
        rest = self.rests[-1]
        return sum([
            self.sums[start][end] * self.places[end][closing] * rest[end + 1]
            for end in range(start, len(self.places), 2)
        ])

    def many_with(self, bracket):
        """How many of the right fillings go on with a bracket."""
        if self.places[self.at][bracket] == 0:
            return 0
        if opens(bracket):
            return self.many_closing(self.at + 1, bracket + 1)
        if not self.closings or self.closings[-1] != bracket:
            return 0
        return self.rests[-2][self.at + 1]

    def take(self, bracket):
        """Go on with a bracket that some of the right fillings go on with."""
        self.at += 1
        if opens(bracket):
            rest = [self.many_closing(start, bracket + 1) for start in range(len(self.places) + 1)]
            self.rests.append(rest)
            self.closings.append(bracket + 1)
        else:
            self.rests.pop()
            self.closings.pop()


def nth_filling(k, row, i):
    """The right filling of a row that has a number."""
    check_line(k, row)
    course = Course(k, row)
    if not is_whole(i) or not 0 <= i < course.many_in_all():
        raise NoNumber("the row has no right filling of this number")
    left = i
    found = ""
    while len(found) < len(row):
        bracket = 0
        while left >= course.many_with(bracket):
            left -= course.many_with(bracket)
            bracket += 1
        course.take(bracket)
        found += BRACKETS[bracket]
    return found


def is_right_filling(k, row, thing):
    """Whether a thing is a right filling of a row."""
    if not is_line(k, thing) or len(thing) != len(row) or not is_right(k, thing):
        return False
    return all([sign in (UNKNOWN, bracket) for sign, bracket in zip(row, thing)])


def number_of(k, row, filling):
    """The number of a right filling of a row."""
    check_line(k, row)
    if not is_right_filling(k, row, filling):
        raise NotRight("this is no right filling of the row")
    course = Course(k, row)
    number = 0
    for sign in filling:
        bracket = BRACKETS.index(sign)
        number += sum([course.many_with(earlier) for earlier in range(bracket)])
        course.take(bracket)
    return number
