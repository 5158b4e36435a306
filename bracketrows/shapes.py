"""The shapes of rows: depth, parts, the turned row, and trees."""

from bracketrows.errors import NoTree
from bracketrows.lines import CLOSING, OPENING, UNKNOWN, check_kinds, check_line, is_whole, partners

MOST_TUPLES = 20


def depth(k, row):
    """The most brackets of a right row that wait to be closed at once."""
    deepest = 0
    standing = 0
    for at, partner in enumerate(partners(k, row)):
        standing += 1 if partner > at else -1
        deepest = max(deepest, standing)
    return deepest


def parts(k, row):
    """The right rows, as many as can be and none empty, that make a right row."""
    ends = partners(k, row)
    found = []
    start = 0
    while start < len(row):
        behind = ends[start] + 1
        found.append(row[start:behind])
        start = behind
    return found


def other_one(sign):
    """The other bracket of a sign's kind, or ? of a ?."""
    if sign == UNKNOWN:
        return UNKNOWN
    if sign in OPENING:
        return CLOSING[OPENING.index(sign)]
    return OPENING[CLOSING.index(sign)]


def turned(k, row):
    """A row read from its end, with each bracket changed for the other one of its kind."""
    check_line(k, row)
    return "".join([other_one(sign) for sign in reversed(row)])


def is_branch(k, thing):
    """Whether a thing is a tuple of a kind and something else."""
    if not isinstance(thing, tuple) or len(thing) != 2:
        return False
    return is_whole(thing[0]) and 0 <= thing[0] < k


def is_tree(k, thing):
    """Whether a thing is a tree by k of at most twenty tuples."""
    check_kinds(k)
    waiting = [thing]
    many = 0
    while waiting:
        tree = waiting.pop()
        if not isinstance(tree, list):
            return False
        # Counted ahead of a look within, so that a list that holds itself comes to an end too.
        many += len(tree)
        if many > MOST_TUPLES:
            return False
        for branch in tree:
            if not is_branch(k, branch):
                return False
            waiting.append(branch[1])
    return True


def tree_between(row, ends, start, stop):
    """The tree of the right row that stands from start up to, not at, stop."""
    tree = []
    while start < stop:
        end = ends[start]
        tree.append((OPENING.index(row[start]), tree_between(row, ends, start + 1, end)))
        start = end + 1
    return tree


def tree_of(k, row):
    """The tree of a right row."""
    ends = partners(k, row)
    return tree_between(row, ends, 0, len(row))


def written(tree):
    """The row of what is surely a tree."""
    return "".join([OPENING[kind] + written(within) + CLOSING[kind] for kind, within in tree])


def row_of_tree(k, tree):
    """The right row of a tree."""
    if not is_tree(k, tree):
        raise NoTree("a tree is a list of at most twenty tuples in all, each a kind and a tree")
    return written(tree)
