"""A row that grows at its end and shrinks."""

from bracketrows.begun import depths, fewest_more, may_go_on
from bracketrows.errors import NoLine, NoNumber, TooMany
from bracketrows.fillings import how_many
from bracketrows.lines import MOST_SIGNS, check_kinds, is_line


class Grower:
    """A row by k to which signs are put and from which they are taken back."""

    def __init__(self, k):
        check_kinds(k)
        self.k = k
        self.signs = ""

    def put(self, sign):
        """Put a sign behind the row."""
        if not is_line(self.k, sign) or len(sign) != 1:
            raise NoLine("a sign is one bracket of the kinds there are, or ?")
        if len(self.signs) == MOST_SIGNS:
            raise TooMany("a row has at most forty signs")
        self.signs += sign

    def back(self):
        """Take the last sign back."""
        if not self.signs:
            raise NoNumber("the row has no sign to take back")
        self.signs = self.signs[:-1]

    def row(self):
        """The row that stands."""
        return self.signs

    def how_many(self):
        """How many right fillings the row has."""
        return how_many(self.k, self.signs)

    def may_go_on(self):
        """Whether some filling of the row is the beginning of a right row."""
        return may_go_on(self.k, self.signs)

    def depths(self):
        """The depths of the row, rising."""
        return depths(self.k, self.signs)

    def fewest_more(self):
        """The fewest brackets that must still come, or None where the row may not go on."""
        return fewest_more(self.k, self.signs)
