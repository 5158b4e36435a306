"""What several tests share: things that are no k, no row and no tree, and rows to go through."""

import itertools

BRACKETS = "()[]{}<>"
ALL_K = (1, 2, 3, 4)


def nested_lists(deep):
    thing = []
    for step in range(deep):
        thing = [thing]
    return thing


def nested_tuples(deep):
    thing = ()
    for step in range(deep):
        thing = (thing,)
    return thing


def nested_dicts(deep):
    thing = {}
    for step in range(deep):
        thing = {"(": thing}
    return thing


def deep_tree(deep, kind=0):
    """A tree of as many tuples, each within the one before."""
    tree = []
    for step in range(deep):
        tree = [(kind, tree)]
    return tree


def flat_tree(many, kind=0):
    """A tree of as many tuples, one beside the other."""
    return [(kind, []) for step in range(many)]


def of_other_kinds():
    """Things that are neither numbers, texts nor lists, made anew each time."""
    return [
        None, True, False, b"", b"()", b"1", (), (1,), (0, []), ("(", ")"), {}, {1: 1}, {"()": []},
        set(), {1}, frozenset(), object(), len, int, nested_tuples(59), nested_dicts(59),
        {"a": [({"b": None},)]}, ([], {}), (None, (b"", [1])),
    ]


def numbers():
    return [-10 ** 29, -4, -1, 0, 1, 4, 5, 41, 10 ** 30 - 1]


def lists():
    return [
        [], [None], [True], [1], [0, 1], ["("], ["(", ")"], ["()"], [b"()"], [[]], [()], [{}],
        nested_lists(59), [("()",)], [{"a": [1]}],
    ]


def no_kinds():
    """Things that are no k."""
    return of_other_kinds() + lists() + ["", "1", "4", "()", "?"] + [
        number for number in numbers() if not 1 <= number <= 4] + [6, 100]


def no_lines(k):
    """Things that are no row by k."""
    texts = [
        "a", " ", "( )", " ()", "() ", "()\n", "\t", "(\n)", "1", "None", "0", "/", "!", "~", "()a", "a()",
        "\\", "?!", "()" * 20 + "(", "()" * 20 + "?", "?" * 41, "(" * 41, ")" * 41, "()" * 21,
        "?" * 1000, "()" * 500, "(" * 500 + ")" * 500, "x" * 40,
    ]
    for bracket in BRACKETS[2 * k:]:
        texts += [bracket, bracket + "?", "()" + bracket, "?" * 39 + bracket]
    if k < 4:
        texts += [BRACKETS[2 * k:2 * k + 2], "(" + BRACKETS[2 * k:2 * k + 2] + ")"]
    return of_other_kinds() + lists() + numbers() + texts


def holds_itself():
    tree = []
    tree.append((0, tree))
    return tree


def doubling(steps):
    """A tree of many tuples that is held in few lists."""
    tree = []
    for step in range(steps):
        tree = [(0, tree), (0, tree)]
    return tree


def no_trees(k):
    """Things that are no tree by k of at most twenty tuples."""
    branches = [
        None, 0, 1, "()", "(", b"()", [], [0, []], {}, {0: []}, (), (0,), ([],), (0, [], []), (0, 0),
        (0, ()), (0, None), (0, ""), (0, "()"), (0, b""), (0, {}), (0, ((0, []),)), (None, []),
        (True, []), (False, []), ("0", []), ("(", []), (b"0", []), ([], []), ((), []), ({}, []),
        (-1, []), (k, []), (k + 1, []), (10 ** 29, []), (-10 ** 29, []), ([], 0),
    ]
    wrong = [[branch] for branch in branches]
    wrong += [[(0, [branch])] for branch in branches]
    wrong += [[(0, []), branch] for branch in branches]
    wrong += [[branch, (0, [])] for branch in branches]
    wrong += [[(0, [(0, []), (0, [(0, []), branch])])] for branch in branches]
    wrong += [
        flat_tree(21), flat_tree(40), flat_tree(20) + [None], deep_tree(21), deep_tree(30),
        [(0, flat_tree(20))], [(0, flat_tree(10)), (0, flat_tree(9))], deep_tree(1) + deep_tree(20),
        holds_itself(), doubling(5), doubling(20), nested_lists(59), nested_lists(1),
    ]
    return wrong + of_other_kinds() + numbers() + ["", "()", "[]", "?", "a" * 1000]


def all_rows(k, longest, unknown=True):
    """Every row by k of at most so many signs."""
    signs = BRACKETS[:2 * k] + ("?" if unknown else "")
    return [
        "".join(row)
        for many in range(longest + 1)
        for row in itertools.product(signs, repeat=many)
    ]


def is_right_by_taking_away(row):
    """Another way to tell a right row: take away pairs that stand side by side until none is left."""
    before = None
    while row != before:
        before = row
        for pair in ("()", "[]", "{}", "<>"):
            row = row.replace(pair, "")
    return row == ""


def right_rows(k, longest):
    """Every right row by k of at most so many signs, built by the words of the document."""
    by_length = {0: [""]}
    for many in range(2, longest + 1, 2):
        by_length[many] = [
            BRACKETS[2 * kind] + within + BRACKETS[2 * kind + 1] + behind
            for kind in range(k)
            for inner in range(0, many, 2)
            for within in by_length[inner]
            for behind in by_length[many - 2 - inner]
        ]
    return [row for many in sorted(by_length) for row in by_length[many]]


def lists_within(thing):
    """Every list that a told thing holds, itself among them."""
    found = [thing] if isinstance(thing, list) else []
    if isinstance(thing, (list, tuple)):
        for inner in thing:
            found += lists_within(inner)
    return found
