"""What several tests share: things that are no k, no row and no tree, rows to go through, and second ways to reckon."""

import itertools

BRACKETS = "()[]{}<>"
ALL_K = (1, 2, 3, 4)


def nested_lists(deep):
    thing = []
    for step in range(deep):
        thing = [thing]
    return thing


def nested_tuples(deep):
    thing = ()
    for step in range(deep):
        thing = (thing,)
    return thing


def nested_dicts(deep):
    thing = {}
    for step in range(deep):
        thing = {"(": thing}
    return thing


def deep_tree(deep, kind=0):
    """A tree of as many tuples, each within the one before."""
    tree = []
    for step in range(deep):
        tree = [(kind, tree)]
    return tree


def flat_tree(many, kind=0):
    """A tree of as many tuples, one beside the other."""
    return [(kind, []) for step in range(many)]


def of_other_kinds():
    """Things that are neither numbers, texts nor lists, made anew each time."""
    return [
        None, True, False, b"", b"()", b"1", (), (1,), (0, []), ("(", ")"), {}, {1: 1}, {"()": []},
        set(), {1}, frozenset(), object(), len, int, nested_tuples(59), nested_dicts(59),
        {"a": [({"b": None},)]}, ([], {}), (None, (b"", [1])),
    ]


def numbers():
    return [-10 ** 29, -4, -1, 0, 1, 4, 5, 41, 10 ** 30 - 1]


def lists():
    return [
        [], [None], [True], [1], [0, 1], ["("], ["(", ")"], ["()"], [b"()"], [[]], [()], [{}],
        nested_lists(59), [("()",)], [{"a": [1]}],
    ]


def no_kinds():
    """Things that are no k."""
    return of_other_kinds() + lists() + ["", "1", "4", "()", "?"] + [
        number for number in numbers() if not 1 <= number <= 4] + [6, 100]


def no_lines(k):
    """Things that are no row by k."""
    texts = [
        "a", " ", "( )", " ()", "() ", "()\n", "\t", "(\n)", "1", "None", "0", "/", "!", "~", "()a", "a()",
        "\\", "?!", "()" * 20 + "(", "()" * 20 + "?", "?" * 41, "(" * 41, ")" * 41, "()" * 21,
        "?" * 1000, "()" * 500, "(" * 500 + ")" * 500, "x" * 40,
    ]
    for bracket in BRACKETS[2 * k:]:
        texts += [bracket, bracket + "?", "()" + bracket, "?" * 39 + bracket]
    if k < 4:
        texts += [BRACKETS[2 * k:2 * k + 2], "(" + BRACKETS[2 * k:2 * k + 2] + ")"]
    return of_other_kinds() + lists() + numbers() + texts


def holds_itself():
    tree = []
    tree.append((0, tree))
    return tree


def doubling(steps):
    """A tree of many tuples that is held in few lists."""
    tree = []
    for step in range(steps):
        tree = [(0, tree), (0, tree)]
    return tree


def no_trees(k):
    """Things that are no tree by k of at most twenty tuples."""
    branches = [
        None, 0, 1, "()", "(", b"()", [], [0, []], {}, {0: []}, (), (0,), ([],), (0, [], []), (0, 0),
        (0, ()), (0, None), (0, ""), (0, "()"), (0, b""), (0, {}), (0, ((0, []),)), (None, []),
        (True, []), (False, []), ("0", []), ("(", []), (b"0", []), ([], []), ((), []), ({}, []),
        (-1, []), (k, []), (k + 1, []), (10 ** 29, []), (-10 ** 29, []), ([], 0),
    ]
    wrong = [[branch] for branch in branches]
    wrong += [[(0, [branch])] for branch in branches]
    wrong += [[(0, []), branch] for branch in branches]
    wrong += [[branch, (0, [])] for branch in branches]
    wrong += [[(0, [(0, []), (0, [(0, []), branch])])] for branch in branches]
    wrong += [
        flat_tree(21), flat_tree(40), flat_tree(20) + [None], deep_tree(21), deep_tree(30),
        [(0, flat_tree(20))], [(0, flat_tree(10)), (0, flat_tree(9))], deep_tree(1) + deep_tree(20),
        holds_itself(), doubling(5), doubling(20), nested_lists(59), nested_lists(1),
    ]
    return wrong + of_other_kinds() + numbers() + ["", "()", "[]", "?", "a" * 1000]


def all_rows(k, longest, unknown=True):
    """Every row by k of at most so many signs."""
    signs = BRACKETS[:2 * k] + ("?" if unknown else "")
    return [
        "".join(row)
        for many in range(longest + 1)
        for row in itertools.product(signs, repeat=many)
    ]


def is_right_by_taking_away(row):
    """Another way to tell a right row: take away pairs that stand side by side until none is left."""
    before = None
    while row != before:
        before = row
        for pair in ("()", "[]", "{}", "<>"):
            row = row.replace(pair, "")
    return row == ""


def right_rows(k, longest):
    """Every right row by k of at most so many signs, built by the words of the document."""
    by_length = {0: [""]}
    for many in range(2, longest + 1, 2):
        by_length[many] = [
            BRACKETS[2 * kind] + within + BRACKETS[2 * kind + 1] + behind
            for kind in range(k)
            for inner in range(0, many, 2)
            for within in by_length[inner]
            for behind in by_length[many - 2 - inner]
        ]
    return [row for many in sorted(by_length) for row in by_length[many]]


def lists_within(thing):
    """Every list that a told thing holds, itself among them."""
    found = [thing] if isinstance(thing, list) else []
    if isinstance(thing, (list, tuple)):
        for inner in thing:
            found += lists_within(inner)
    return found


def no_numbers_below(many):
    """Things that are no whole number from 0 on, below many."""
    wrong = [number for number in numbers() + [-2, -40, 40, many, many + 1, 10 * many] if not 0 <= number < many]
    return wrong + of_other_kinds() + lists() + ["", "0", "1", "()", "?", "a" * 1000]


def no_brackets(k):
    """Things that are no bracket of the kinds of k, one sign."""
    texts = ["", "?", "a", " ", "0", "()", "((", "(?", ")(", BRACKETS[:2 * k], BRACKETS, "\n", "(" * 1000, "[]"]
    return texts + list(BRACKETS[2 * k:]) + of_other_kinds() + lists() + numbers()


def no_weights(k):
    """Things that are no weights by k."""
    many = 2 * k
    wrong = [[1] * length for length in range(41) if length != many]
    wrong += [
        [1] * place + [thing] + [1] * (many - 1 - place)
        for place in range(many)
        for thing in of_other_kinds() + lists() + [-1, -10 ** 29, "", "1", "("]
    ]
    wrong += [(1,) * many, {at: 1 for at in range(many)}, "1" * many, b"1" * many, [[1] * many], [[1, 1]] * k]
    return wrong + of_other_kinds() + [one for one in lists() if one != [0, 1]] + numbers() + ["", "()"]


def in_order(rows):
    """Rows in the order of the first brackets that are unlike, ( ) [ ] { } < >."""
    return sorted(rows, key=lambda row: [BRACKETS.index(bracket) for bracket in row])


def right_fillings(k, row):
    """The right fillings of a row, gone through sign by sign, in their order."""
    choices = [BRACKETS[:2 * k] if sign == "?" else sign for sign in row]
    return in_order([
        "".join(filling) for filling in itertools.product(*choices) if is_right_by_taking_away("".join(filling))])


def fits(row, filling):
    return len(row) == len(filling) and all(sign in ("?", bracket) for sign, bracket in zip(row, filling))


def right_rows_that_fit(row, right):
    """The right fillings of a row, picked from all right rows."""
    return in_order([one for one in right if fits(row, one)])


def rows_that_fit(right):
    """Of right rows several rows each that have them as fillings, some signs unknown by a fixed pattern."""
    found = []
    for at, row in enumerate(right):
        for pattern in (at * 37 + 5, at * 101 + 9, at * 211 + 14):
            found.append("".join("?" if pattern >> place & 1 else sign for place, sign in enumerate(row)))
    return found


def filling_weight(row, filling, weights):
    """The product of the weights of the brackets in the places of ?."""
    weight = 1
    for sign, bracket in zip(row, filling):
        if sign == "?":
            weight *= weights[BRACKETS.index(bracket)]
    return weight


def by_stacks(k, row, weights, summed=sum):
    """A second way to the sum of the weights (or, by max, to the greatest one): sign by sign from the left.

    For each stack of what is not yet closed, told by the weights of its opening brackets, it keeps one number.
    """
    stacks = {(): 1}
    for at, sign in enumerate(row):
        here = [weights[place] if sign == "?" else int(sign == BRACKETS[place]) for place in range(2 * k)]
        opening, closing = tuple(here[::2]), here[1::2]
        found = {}
        for stack, weight in stacks.items():
            if any(opening) and len(stack) < len(row) - at:
                found.setdefault(stack + (opening,), []).append(weight)
            if stack and any(closing):
                pair = summed([first * last for first, last in zip(stack[-1], closing)])
                found.setdefault(stack[:-1], []).append(weight * pair)
        stacks = {stack: summed(weights_of_it) for stack, weights_of_it in found.items()}
    return stacks.get((), 0)


def count_by_stacks(k, row):
    return by_stacks(k, row, [1] * (2 * k))


def with_sign(row, place, sign):
    """A row with another sign at a place."""
    return row[:place] + sign + row[place + 1:]


def forty_with_fillings(k):
    """Rows of forty signs by k that have right fillings: all unknown, few unknown, and much between."""
    opening, closing = BRACKETS[2 * k - 2:2 * k]
    nested = opening * 10 + "(" * 10 + ")" * 10 + closing * 10
    side_by_side = (BRACKETS[:2 * k] * 20)[:40]
    return [
        "?" * 40, "(" + "?" * 39, "?" * 39 + closing, "?" * 20 + opening + "?" * 19, "(" * 20 + "?" * 20,
        "?" * 20 + closing * 20, "(?" * 20, "?" + "?)" * 19 + closing,
        ("?" * 9 + "(" + "?" * 8 + closing + "?") * 2, "(" + "?" * 18 + ")" + opening + "?" * 18 + closing,
        nested, nested[:5] + "?" * 6 + nested[11:30] + "??" + nested[32:],
        "?" * 8 + nested[8:16] + "?" * 8 + nested[24:32] + "?" * 8, side_by_side, side_by_side[:24] + "?" * 16,
        side_by_side[:19] + "??" + side_by_side[21:], ("?" + opening + "??" + ")?" + "??") * 5,
    ]


def forty_without_fillings(k):
    """Rows of forty signs by k that have no right filling."""
    opening, closing = BRACKETS[2 * k - 2:2 * k]
    return [
        ")" + "?" * 39, "?" * 39 + "(", "(" * 21 + "?" * 19, "?" * 18 + closing * 22, ("?" * 7 + opening) * 5,
        "?" * 19 + closing * 21, closing * 20 + "?" * 20, "(" * 40, ")" * 40, "()" * 19 + closing + "?",
    ]


def changes(row, right):
    """How many brackets of a row are unlike those of a right row; what stands for ? is no change."""
    return sum(sign not in ("?", bracket) for sign, bracket in zip(row, right))


def filling_depth(filling):
    """How many brackets wait at the end of a filling, bracket by bracket, or None where it begins no right row."""
    waiting = []
    for bracket in filling:
        at = BRACKETS.index(bracket)
        if at % 2 == 0:
            waiting.append(at)
        elif not waiting or waiting.pop() != at - 1:
            return None
    return len(waiting)


def all_fillings(k, row):
    choices = [BRACKETS[:2 * k] if sign == "?" else sign for sign in row]
    return ["".join(filling) for filling in itertools.product(*choices)]


def depths_one_by_one(k, row):
    """The depths of all fillings of a row that begin a right row, gone through one by one."""
    told = {filling_depth(filling) for filling in all_fillings(k, row)}
    return sorted(told - {None})


def many_by_depth(k, row):
    """A second way, from the left by stacks: for each depth how many fillings begin a right row and end there."""
    stacks = {(): 1}
    for sign in row:
        here = [int(sign in ("?", bracket)) for bracket in BRACKETS[:2 * k]]
        opening, closing = tuple(here[::2]), here[1::2]
        found = {}
        for stack, many in stacks.items():
            if any(opening):
                found[stack + (opening,)] = found.get(stack + (opening,), 0) + many
            pair = sum(first * last for first, last in zip(stack[-1], closing)) if stack else 0
            if pair:
                found[stack[:-1]] = found.get(stack[:-1], 0) + many * pair
        stacks = found
    by_depth = {}
    for stack, many in stacks.items():
        for opening in stack:
            many *= sum(opening)
        by_depth[len(stack)] = by_depth.get(len(stack), 0) + many
    return by_depth
