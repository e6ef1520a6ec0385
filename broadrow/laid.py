"""Programs laid flat: their wide rows, and the program that these tell."""

from broadrow.alike import alike
from broadrow.kinding import kinds_of
from broadrow.trees import parts
from broadrow.widths import brought_names

# How many parts are done ahead of a piece's own row, where these are not all.
AHEAD = {"if": 1, "each": 1, "times": 2}


def laid(program):
    """The wide rows of a program."""
    return rows_of(program[1], (), dict(kinds_of(program)))


def rows_of(tree, place, kinds):
    """The wide rows of the tree at a place, by the kinds of all places."""
    if tree[0] == "name":
        return [("call", place, tree[1])]
    if tree[0] == "let":
        middle = [("let", tree[1], place + (0,))]
        end = [("call", place, place + (1,))]
        return part_rows(tree, 0, place, kinds) + middle + part_rows(tree, 1, place, kinds) + end
    rows = []
    for number in range(AHEAD.get(tree[0], len(parts(tree)))):
        rows.extend(part_rows(tree, number, place, kinds))
    rows.append(own_row(tree, place, kinds))
    return rows


def part_rows(tree, number, place, kinds):
    """The wide rows of a part of the tree at a place."""
    return rows_of(parts(tree)[number], place + (number,), kinds)


def own_row(tree, place, kinds):
    """The one row of a piece that is neither a name nor a let."""
    kind = kinds[place]
    if tree[0] == "if":
        return ("arms", place, kind, place + (0,)) + inner(tree, 1, place, kinds) + inner(tree, 2, place, kinds)
    if tree[0] == "each":
        return ("within", place, kind, tree[1], place + (0,)) + inner(tree, 1, place, kinds)
    if tree[0] == "times":
        return ("rounds", place, kind, tree[1], place + (0,), place + (1,)) + inner(tree, 2, place, kinds)
    sign = tree if tree[0] in ("num", "none") else tree[0]
    return ("do", place, sign, kind, [place + (number,) for number in range(len(parts(tree)))])


def inner(tree, number, place, kinds):
    """A tuple: the names that are brought to a part of the tree at a place, and its wide rows."""
    return (brought_names(tree, number), part_rows(tree, number, place, kinds))


def unlaid(heads, rows):
    """The program with these heads that has these wide rows."""
    trees = {}
    add_trees(rows, trees, {})
    return (heads, trees[()])


def add_trees(rows, trees, lets):
    """Adds what stands at the rows' places to the trees, and to the lets the names of the worths at places."""
    for row in rows:
        if row[0] == "let":
            lets[row[2]] = row[1]
        else:
            trees[row[1]] = TREES[row[0]](row, trees, lets)


def do_tree(row, trees, lets):
    if isinstance(row[2], tuple):
        return row[2]
    return (row[2],) + tuple([trees[place] for place in row[4]])


def call_tree(row, trees, lets):
    if isinstance(row[2], str):
        return ("name", row[2])
    bound = row[1] + (0,)
    return ("let", lets[bound], trees[bound], trees[row[2]])


def arms_tree(row, trees, lets):
    add_trees(row[5], trees, lets)
    add_trees(row[7], trees, lets)
    return ("if", trees[row[3]], trees[row[1] + (1,)], trees[row[1] + (2,)])


def within_tree(row, trees, lets):
    add_trees(row[6], trees, lets)
    return ("each", row[3], trees[row[4]], trees[row[1] + (1,)])


def rounds_tree(row, trees, lets):
    add_trees(row[7], trees, lets)
    return ("times", row[3], trees[row[4]], trees[row[5]], trees[row[1] + (2,)])


TREES = {"do": do_tree, "call": call_tree, "arms": arms_tree, "within": within_tree, "rounds": rounds_tree}


def is_laid(program, rows):
    """Whether any thing is the program's wide rows."""
    return alike(laid(program), rows)
